import PyProof.Rows.All
import Wide.All
import KE.KDictOf
import KE.KFromBytes
import KE.LcTurns
import KE.KIsAll
import KE.KItem
import Wide.FinOn
import KE.KNestM
import PySem.Challenge.RW_notring_k62_a_tree_of_worlds
import Lean
import PyProof.EqAt
import PyProof.EqKinds
import PyProof.TupleCall
import PyProof.DictIter
import PyProof.DictWalks
import PyProof.NeKinds
import PyProof.Rows.SetFrom
import PyProof.SetRoads
import PyProof.WalksMore
import PyProof.TupleIter
import PyProof.SumAnyB
import PyProof.Conv_int
import PyProof.Conv_int_bool
import PyProof.ListRange
import PyProof.DictTruth
import PyProof.Rows.SortWalk
import PyProof.EnumMake
import PyProof.EnumIter
import PyProof.EnumFor
import PyProof.EnumStmt
import PyProof.Draws
import PyProof.Rows.CallKwBuiltin
import PyProof.DefCall
import KE.BitLaws
set_option compiler.extract_closed false
set_option Elab.async false
set_option maxRecDepth 100000
set_option maxHeartbeats 4000000
local macro_rules
 |`(command|def $i:declId $s:optDeclSig $v:declVal)=>`(command|noncomputable def $i:declId $s:optDeclSig $v:declVal)
 |`(command|abbrev $i:declId $s:optDeclSig $v:declVal)=>`(command|noncomputable abbrev $i:declId $s:optDeclSig $v:declVal)
namespace TopT
open PySem PySem.W PyProof.Rows
def mB:List Obj->Nat->BT->Option (BT×Nat)
 |[],n,T=>some (T,n)
 |o::r,n,T=>match((T.ins n o).get n).isSome with
  |true=>mB r (n+1) (T.ins n o)
  |false=>none
theorem xO(life:Life):∀{os:List Obj}{n n':Nat}{T T':BT},mB os n T=some (T',n')->absHeap T' n' life=⟨((absHeap T n life).objs.toList++os).toArray,life⟩
 |[],n,n',T,T',h=>by
  cases h;rw[List.append_nil];rfl
 |o::r,n,n',T,T',h=>by
  unfold mB at h;cases g:((T.ins n o).get n).isSome with
  |false=>rw[g] at h;cases h
  |true=>
   rw[g] at h;have ih:=xO life (os:=r) h;rw[ih,absHeap_ins g];show Heap.mk (((absHeap T n life).objs.push o).toList++r).toArray life=_;rw[Array.toList_push,List.append_assoc];rfl
def ra(tb:String->Option Builtin)(p:Program)(w:World)(n₀:Nat)(ann:Option Value):Nat->SharedT->Thread->Option SharedT
 |0,_,_=>none
 |n+1,s,t=>match through t with
  |true=>some s
  |false=>match stepOk n₀ ann t with
   |false=>none
   |true=>match stepT (denote tb) p w s t with
    |some (s',t')=>ra tb p w n₀ ann n s' t'
    |none=>none
theorem xP{tb:String->Option Builtin}{p:Program}{w:World}{n₀:Nat}{ann:Option Value}:∀{n:Nat}{s s':SharedT}{t:Thread},ra tb p w n₀ ann n s t=some s'->topRun tb p w n₀ ann n s.abs t=some s'.abs
 |0,_,_,_,h=>by cases h
 |n+1,s,s',t,h=>by
  unfold ra at h;unfold topRun;cases ht:through t with
  |true=>rw[ht] at h;cases h;rfl
  |false=>
   rw[ht] at h;cases hk:stepOk n₀ ann t with
   |false=>rw[hk] at h;cases h
   |true=>
    rw[hk] at h;cases hs:stepT (denote tb) p w s t with
    |none=>rw[hs] at h;cases h
    |some x=>
     obtain⟨s2,t2⟩:=x;rw[hs] at h
     have:=stepT_spec hs
     simp only[this];exact xP h
def getT(s:SharedT)(a:Addr):Option Obj:=match Nat.blt a s.n with
 |true=>alive ((s.tree.get a).getD default)
 |false=>none
theorem IO(s:SharedT)(a:Addr):s.abs.heap.get? a=getT s a:=by
 show(absHeap s.tree s.n s.life).get? a=_;unfold getT Heap.get?;rw[absHeap_at];cases e:Nat.blt a s.n with
 |true=>
  have lt:a<s.n:=Nat.le_of_ble_eq_true e;rw[if_pos lt];obtain⟨c,d,dt,sl⟩:=(s.tree.get a).getD default;cases dt<;>rfl
 |false=>
  have nl:¬a<s.n:=fun h=>by
   have:Nat.blt a s.n=true:=Nat.ble_eq_true_of_le h
   rw[this] at e;cases e
  rw[if_neg nl]
def lft:BT->BT
 |.nil=>.nil
 |.node _ l _=>l
def rgt:BT->BT
 |.nil=>.nil
 |.node _ _ r=>r
def rt:BT->Obj
 |.nil=>default
 |.node v _ _=>v
def atL(ts:List BT)(m i:Nat):Obj:=(((ts[i%m]?).getD .nil).get (i / m)).getD default
def lv:Nat->List BT->Nat->Nat->List Obj
 |0,ts,m,n=>(List.range n).map (atL ts m)
 |k+1,ts,m,n=>match Nat.ble n m with
  |true=>(ts.take n).map rt
  |false=>ts.map rt++lv k (ts.map lft++ts.map rgt) (m+m) (n-m)
theorem Ky(t:BT):(t.get 0).getD default=rt t:=by cases t<;>rfl
theorem IP(t:BT)(j:Nat):t.get (2*j+1)=(lft t).get j:=by
 cases t with
 |nil=>rfl
 |node v l r=>rw[BT.get_node,if_neg (by omega),if_pos (by omega),show(2*j+1) / 2=j by omega];rfl
theorem GT(t:BT)(j:Nat):t.get (2*j+2)=(rgt t).get j:=by
 cases t with
 |nil=>rfl
 |node v l r=>rw[BT.get_node,if_neg (by omega),if_neg (by omega),show(2*j+2) / 2-1=j by omega];rfl
theorem uh{ts:List BT}{m r:Nat}(k:Nat)(hr:r<m):atL ts m (m*k+r)=((ts[r]?.getD .nil).get k).getD default:=by
 unfold atL;rw[Nat.mul_add_mod,Nat.mod_eq_of_lt hr,Nat.mul_add_div (by omega),Nat.div_eq_of_lt hr,Nat.add_zero]
theorem Kz{ts:List BT}{m:Nat}(h:ts.length=m)(hm:0<m)(i:Nat):atL ts m (m+i)=atL (ts.map lft++ts.map rgt) (m+m) i:=by
 have hr:i%m<m:=Nat.mod_lt _ hm;have d:=Nat.div_add_mod i m;generalize i%m=r at *;generalize i / m=k at *;subst d;obtain⟨t,e0⟩:∃t,ts[r]?=some t:=⟨_,List.getElem?_eq_getElem (h▸hr)⟩;rw[show m+(m*k+r)=m*(k+1)+r by rw[Nat.mul_add];omega,uh _ hr,e0];rcases Nat.mod_two_eq_zero_or_one k with e | e
 ·obtain⟨j,rfl⟩:∃j,k=2*j:=⟨k / 2,by omega⟩
  rw[show m*(2*j)+r=(m+m)*j+r by rw[←Nat.mul_assoc,Nat.mul_two],uh _ (by omega),List.getElem?_append_left (by rw[List.length_map];omega),List.getElem?_map,e0];exact congrArg (·.getD default) (IP _ j)
 ·obtain⟨j,rfl⟩:∃j,k=2*j+1:=⟨k / 2,by omega⟩
  rw[show m*(2*j+1)+r=(m+m)*j+(m+r) by rw[Nat.mul_add,←Nat.mul_assoc,Nat.mul_two];omega,uh _ (by omega),List.getElem?_append_right (by rw[List.length_map];omega),List.length_map,h,Nat.add_sub_cancel_left,List.getElem?_map,e0];exact congrArg (·.getD default) (GT _ j)
theorem Ix:∀(k:Nat){ts:List BT}{m:Nat}(n:Nat),ts.length=m->0<m->lv k ts m n=(List.range n).map (atL ts m)
 |0,_,_,_,_,_=>rfl
 |k+1,ts,m,n,h,hm=>by
  have hd:∀j,j<m->atL ts m j=rt (ts[j]?.getD .nil):=fun j hj=>by
   rw[show j=m*0+j by omega,uh _ hj,Ky];simp
  show(match Nat.ble n m with | true=>_ | false=>_)=_;cases e:Nat.ble n m with
  |true=>
   have hn:n<=m:=Nat.le_of_ble_eq_true e;apply List.ext_getElem?;intro j;show((ts.take n).map rt)[j]?=_;rw[List.getElem?_map,List.getElem?_map,List.getElem?_take];by_cases hj:j<n
   ·rw[if_pos hj,List.getElem?_range hj,List.getElem?_eq_getElem (by omega)]
    show some (rt ts[j])=some (atL ts m j);rw[hd j (by omega),List.getElem?_eq_getElem (by omega)];rfl
   ·rw[if_neg hj,List.getElem?_eq_none (by rw[List.length_range];omega)];rfl
  |false=>
   have hn:m<n:=Nat.lt_of_not_le fun q=>by rw[Nat.ble_eq_true_of_le q] at e;cases e
   show ts.map rt++lv k (ts.map lft++ts.map rgt) (m+m) (n-m)=_;rw[Ix k (n-m) (by rw[List.length_append,List.length_map,List.length_map,h]) (by omega),show n=m+(n-m) by omega,List.range_add,List.map_append,List.map_map];congr 1
   ·apply List.ext_getElem?
    intro j;rw[List.getElem?_map,List.getElem?_map];by_cases hj:j<m
    ·rw[List.getElem?_range hj,List.getElem?_eq_getElem (by omega)]
     show some (rt ts[j])=some (atL ts m j);rw[hd j hj,List.getElem?_eq_getElem (by omega)];rfl
    ·rw[List.getElem?_eq_none (by omega),List.getElem?_eq_none (by rw[List.length_range];omega)];rfl
   ·rw[show m+(n-m)-m=n-m by omega]
    exact List.map_congr_left fun i _=>(Kz h hm i).symm
theorem list_eq(t:BT)(n:Nat):t.list n=lv 20 [t] 1 n:=by
 rw[Ix (ts:=[t]) (m:=1) 20 n rfl (by decide)];unfold BT.list;apply List.map_congr_left;intro i _;show _=(((([t]:List BT)[i%1]?).getD .nil).get (i / 1)).getD default;rw[Nat.mod_one,Nat.div_one];rfl
def absF(s:SharedT):Shared:=⟨⟨(lv 20 [s.tree] 1 s.n).toArray,s.life⟩,s.gens,s.drawn,s.toks,s.os⟩
theorem Dm(s:SharedT):s.abs=absF s:=by
 unfold SharedT.abs absHeap absF;rw[list_eq]
def runC{α:Type}(p:Program)(w:World)(N:Nat)(C:Shared->SharedT->α):Option α:=(fencedOpening treeTable p w N).bind fun s₀=>match s₀.heap.isNs mainGlobals&&s₀.gens.size==0 with
 |true=>match mB s₀.heap.objs.toList 0 .nil with
  |some (T,n)=>(ra treeTable p w s₀.heap.objs.size (s₀.heap.nsMap mainGlobals "__annotations__") N ⟨T,n,s₀.heap.life,s₀.gens,s₀.drawn,s₀.toks,s₀.os⟩ (topStub p)).map (C s₀)
  |none=>none
 |false=>none
theorem GU{α:Type}{p:Program}{w:World}{N:Nat}(C:Shared->SharedT->α):runC p w N C=(runC p w N Prod.mk).map fun x=>C x.1 x.2:=by
 unfold runC;cases fencedOpening treeTable p w N with
 |none=>rfl
 |some s₀=>
  show(match s₀.heap.isNs mainGlobals&&s₀.gens.size==0 with | true=>_ | false=>_)=Option.map _ (match s₀.heap.isNs mainGlobals&&s₀.gens.size==0 with | true=>_ | false=>_);cases s₀.heap.isNs mainGlobals&&s₀.gens.size==0 with
  |false=>rfl
  |true=>
   show(match mB s₀.heap.objs.toList 0 .nil with | some (T,n)=>_ | none=>_)=Option.map _ (match mB s₀.heap.objs.toList 0 .nil with | some (T,n)=>_ | none=>_);cases mB s₀.heap.objs.toList 0 .nil with
   |none=>rfl
   |some x=>
    obtain⟨T,n⟩:=x;show Option.map (C s₀) _=Option.map _ (Option.map (Prod.mk s₀) _);rw[Option.map_map];rfl
def zm(p:Program)(s₀ s:Shared):Bool:=staticsOk (importedModules p.main.body) s₀.heap s.heap&&namesBound p s.heap&&gensDone s&&laidKept s₀.heap s.heap
theorem IQ{p:Program}{w:World}{N:Nat}{s₀:Shared}{s:SharedT}(h:runC p w N Prod.mk=some (s₀,s))(k:zm p s₀ (absF s)=true):openEnds treeTable p w N=some (absF s):=by
 unfold runC at h;obtain⟨s₂,h0,h⟩:=Option.bind_eq_some_iff.mp h;cases g:(s₂.heap.isNs mainGlobals&&s₂.gens.size==0) with
 |false=>rw[g] at h;cases h
 |true=>
  rw[g] at h;cases e:mB s₂.heap.objs.toList 0 .nil with
  |none=>rw[e] at h;cases h
  |some x=>
   obtain⟨T,n⟩:=x;rw[e] at h;obtain⟨s₁,h1,h2⟩:=Option.map_eq_some_iff.mp h;cases h2;have a:(⟨T,n,s₀.heap.life,s₀.gens,s₀.drawn,s₀.toks,s₀.os⟩:SharedT).abs=s₀:=by
    show Shared.mk (absHeap T n s₀.heap.life) _ _ _ _=_;rw[xO s₀.heap.life e];rfl
   have r:=xP h1;rw[a,Dm] at r;unfold openEnds topFrom;rw[h0];show(match s₀.heap.isNs mainGlobals&&s₀.gens.size==0 with | true=>_ | false=>_)=_;rw[g];show(topRun treeTable p w s₀.heap.objs.size (s₀.heap.nsMap mainGlobals "__annotations__") N s₀ (topStub p)).bind _=_;rw[r];show(match zm p s₀ (absF s) with | true=>some (absF s) | false=>none)=_;rw[k]
theorem Mc{p q:Program}{loose:List Str}{Xt:Shared->Bool}{N:Nat}{g0:Bool}{K:Params->Frag}{as:List Addr}{e:∀P,as=(K P).map (·.1)}
  (h1:∀w,runC p w N (fun s₀ s=>(zm p s₀ (absF s),(openSeen q loose (importedModules p.main.body) Xt g0 (absF s)).1,(openSeen q loose (importedModules p.main.body) Xt g0 (absF s)).2.1))=some (true,expectedOf q,bltViewBooted))
  (h2:∀w,runC p w N (fun _ s=>(openSeen q loose (importedModules p.main.body) Xt g0 (absF s)).2.2.1)=some true)
  (h3:∀w,runC p w N (fun _ s=>((openSeen q loose (importedModules p.main.body) Xt g0 (absF s)).2.2.2.1,(openSeen q loose (importedModules p.main.body) Xt g0 (absF s)).2.2.2.2.1))=some (true,pinGoodD (drecsOf q)))
  (h5:∀w,runC p w N (fun _ s=>(openSeen q loose (importedModules p.main.body) Xt g0 (absF s)).2.2.2.2.2.1)=some (plainGoodE q (looseW q loose)))
  (h6:∀w,runC p w N (fun _ s=>(openSeen q loose (importedModules p.main.body) Xt g0 (absF s)).2.2.2.2.2.2)=some (plainGoodD q loose,wideGood q,clsGoodW q loose))
  (h4:∀w:World,runC p w N (fun _ s=>as.map (getT s))=some ((K w.params).map (fun p=>some p.2))):LeftO p q loose Xt (Hook.obs (kHook K as e)) (Hook.val (kHook K as e)) N g0:=fun w=>by
 have h1:=h1 w;have h2:=h2 w;have h3:=h3 w;have h4:=h4 w;have h5:=h5 w;have h6:=h6 w;rw[GU] at h1 h2 h3 h4 h5 h6;obtain⟨⟨s₀,s⟩,hr,a1⟩:=Option.map_eq_some_iff.mp h1;rw[hr] at h2 h3 h4 h5 h6;obtain⟨b1,b2⟩:=Prod.mk.inj a1;obtain⟨b2,b3⟩:=Prod.mk.inj b2;obtain⟨b4,b5⟩:=Prod.mk.inj (Option.some.inj h3);rw[IQ hr b1];have e3:as.map (absF s).heap.get?=as.map (getT s):=List.map_congr_left fun a _=>by rw[←Dm];exact IO s a
 exact congrArg some (Prod.ext (Prod.ext b2 (Prod.ext b3 (Prod.ext (Option.some.inj h2) (Prod.ext b4 (Prod.ext b5 (Prod.ext (Option.some.inj h5) (Option.some.inj h6))))))) (e3.trans (Option.some.inj h4)))
end TopT
section
open PySem PySem.W PyProof.Rows
def K62.viewQ:Program:=PySem.W.view PySem.Challenge.pw_notring_k62_a_tree_of_worlds [0,2,3,4,5,6,7,9,10,11,13,14,15,16,17,18,19,20,22,23,24,25,26,28,29,30,32,33,34,35,36,37,39,40,41,42,43,44,45,46,47,48,49,50,51,53,54,55,56,57,58,59,60,61,62,63,64,65,66,67,68,69]
set_option maxRecDepth 100000 in
set_option maxHeartbeats 0 in
theorem K62.seen1:∀w:World,TopT.runC PySem.Challenge.pw_notring_k62_a_tree_of_worlds w 16100 (fun s₀ s=>(TopT.zm PySem.Challenge.pw_notring_k62_a_tree_of_worlds s₀ (TopT.absF s),(openSeen K62.viewQ [] (importedModules PySem.Challenge.pw_notring_k62_a_tree_of_worlds.main.body) (fun s=>xlAt K62.viewQ [] s&&recOk [] s) true (TopT.absF s)).1,(openSeen K62.viewQ [] (importedModules PySem.Challenge.pw_notring_k62_a_tree_of_worlds.main.body) (fun s=>xlAt K62.viewQ [] s&&recOk [] s) true (TopT.absF s)).2.1))=some (true,expectedOf K62.viewQ,bltViewBooted):=by
 intro w;kernel_rfl
set_option maxRecDepth 100000 in
set_option maxHeartbeats 0 in
theorem K62.seen2:∀w:World,TopT.runC PySem.Challenge.pw_notring_k62_a_tree_of_worlds w 16100 (fun _ s=>(openSeen K62.viewQ [] (importedModules PySem.Challenge.pw_notring_k62_a_tree_of_worlds.main.body) (fun s=>xlAt K62.viewQ [] s&&recOk [] s) true (TopT.absF s)).2.2.1)=some true:=by
 intro w;kernel_rfl
set_option maxRecDepth 100000 in
set_option maxHeartbeats 0 in
theorem K62.seen3:∀w:World,TopT.runC PySem.Challenge.pw_notring_k62_a_tree_of_worlds w 16100 (fun _ s=>((openSeen K62.viewQ [] (importedModules PySem.Challenge.pw_notring_k62_a_tree_of_worlds.main.body) (fun s=>xlAt K62.viewQ [] s&&recOk [] s) true (TopT.absF s)).2.2.2.1,(openSeen K62.viewQ [] (importedModules PySem.Challenge.pw_notring_k62_a_tree_of_worlds.main.body) (fun s=>xlAt K62.viewQ [] s&&recOk [] s) true (TopT.absF s)).2.2.2.2.1))=some (true,pinGoodD (drecsOf K62.viewQ)):=by
 intro w;kernel_rfl
set_option maxRecDepth 100000 in
set_option maxHeartbeats 0 in
theorem K62.seen5:∀w:World,TopT.runC PySem.Challenge.pw_notring_k62_a_tree_of_worlds w 16100 (fun _ s=>(openSeen K62.viewQ [] (importedModules PySem.Challenge.pw_notring_k62_a_tree_of_worlds.main.body) (fun s=>xlAt K62.viewQ [] s&&recOk [] s) true (TopT.absF s)).2.2.2.2.2.1)=some (plainGoodE K62.viewQ (looseW K62.viewQ [])):=by
 intro w;kernel_rfl
set_option maxRecDepth 100000 in
set_option maxHeartbeats 0 in
theorem K62.seen6:∀w:World,TopT.runC PySem.Challenge.pw_notring_k62_a_tree_of_worlds w 16100 (fun _ s=>(openSeen K62.viewQ [] (importedModules PySem.Challenge.pw_notring_k62_a_tree_of_worlds.main.body) (fun s=>xlAt K62.viewQ [] s&&recOk [] s) true (TopT.absF s)).2.2.2.2.2.2)=some (plainGoodD K62.viewQ [],wideGood K62.viewQ,clsGoodW K62.viewQ []):=by
 intro w;kernel_rfl
end
-- CHANGE: your row's module here,as the last of these rows
set_option linter.all false
namespace L2
open PySem PySem.Spec PyProof.Rows
abbrev Key:=Sum Int Str
def oq:Key->Value->Bool
 |.inl k,v=>Value.isInt k v
 |.inr x,v=>Value.isStrOf x v
def keyH(w:World):Key->Int
 |.inl k=>hashInt k
 |.inr x=>hashStr w x
theorem bA:∀{k:Key}{v:Value},oq k v=true->(∃i t,k=Sum.inl i/\v=Value.int i t)\/(∃x t,k=Sum.inr x/\v=Value.str x t)
 |.inl i,v,h=>by
  obtain⟨t,e⟩:=Value.isInt_shape (k:=i) (v:=v) h;exact .inl ⟨i,t,rfl,e⟩
 |.inr x,v,h=>by
  obtain⟨t,e⟩:=Value.isStrOf_shape (x:=x) (v:=v) h;exact .inr ⟨x,t,rfl,e⟩
theorem Fn(i:Int)(t:Tok):oq (.inl i) (.int i t)=true:=by simp[oq,Value.isInt]
theorem Fo(x:Str)(t:Tok):oq (.inr x) (.str x t)=true:=by simp[oq,Value.isStrOf]
theorem KA(a b:Int):decide ((Sum.inl a:Key)=Sum.inl b)=(a==b):=by
 by_cases e:a=b
 ·subst e;simp
 ·have h:¬(Sum.inl a:Key)=Sum.inl b:=fun q=>e (Sum.inl.inj q)
  rw[decide_eq_false h];exact(beq_eq_false_iff_ne.mpr e).symm
theorem KB(a b:Str):decide ((Sum.inr a:Key)=Sum.inr b)=decide (a=b):=by
 by_cases e:a=b
 ·subst e;simp
 ·have h:¬(Sum.inr a:Key)=Sum.inr b:=fun q=>e (Sum.inr.inj q)
  rw[decide_eq_false h,decide_eq_false e]
theorem KC(a:Int)(b:Str):decide ((Sum.inl a:Key)=Sum.inr b)=false:=decide_eq_false (fun q=>nomatch q)
theorem KD(a:Str)(b:Int):decide ((Sum.inr a:Key)=Sum.inl b)=false:=decide_eq_false (fun q=>nomatch q)
def bm(prog:Program)(w:World):PySem.KeyKind prog w Key where
 is:=oq
 hash:=keyH w
 inj:=fun v a b ha hb=>by
  rcases bA ha with⟨i,t,rfl,rfl⟩ | ⟨x,t,rfl,rfl⟩
  ·rcases bA hb with⟨j,u,rfl,e⟩ | ⟨y,u,rfl,e⟩
   ·injection e with e1 _;rw[e1]
   ·exact nomatch e
  ·rcases bA hb with⟨j,u,rfl,e⟩ | ⟨y,u,rfl,e⟩
   ·exact nomatch e
   ·injection e with e1 _;rw[e1]
 byValue:=fun k v h=>by
  rcases bA h with⟨i,t,rfl,rfl⟩ | ⟨x,t,rfl,rfl⟩<;>rfl
 pyHash:=fun hv h=>by
  rcases bA hv with⟨i,t,rfl,rfl⟩ | ⟨x,t,rfl,rfl⟩
  ·exact wpAny_pyHash_int h
  ·exact wpAny_pyHash_str h
 eqBool:=fun hu hv h=>by
  rcases bA hu with⟨i,t,rfl,rfl⟩ | ⟨x,t,rfl,rfl⟩
  ·rcases bA hv with⟨j,u,rfl,rfl⟩ | ⟨y,u,rfl,rfl⟩
   ·rw[KA] at h;exact wpAny_eqBool_int h
   ·rw[KC] at h;exact SeqAt.EqAt.int_str i t y u _ _ _ _ h
  ·rcases bA hv with⟨j,u,rfl,rfl⟩ | ⟨y,u,rfl,rfl⟩
   ·rw[KD] at h;exact SeqAt.EqAt.str_int x t j u _ _ _ _ h
   ·rw[KB] at h;exact wpAny_eqBool_str h
 «strs»:=fun k x t v h=>by
  rcases bA h with⟨i,u,rfl,e⟩ | ⟨y,u,rfl,e⟩
  ·exact nomatch e
  ·injection e with e1 _
   subst e1;cases v<;>rfl
theorem DZ(prog:Program)(w:World)(k:Key)(v:Value):(bm prog w).is k v=oq k v:=rfl
theorem B0(prog:Program)(w:World)(i:Int)(t:Tok):(bm prog w).is (.inl i) (.int i t)=true:=Fn i t
theorem Ca(prog:Program)(w:World)(x:Str)(t:Tok):(bm prog w).is (.inr x) (.str x t)=true:=Fo x t
end L2
namespace L2
open PySem PySem.Spec PyProof.Rows
inductive V where
 |non | bl (b:Bool) | int (i:Int) | str (x:Str) | byt (b:Array UInt8) | flt (b:UInt64) | ref (a:Addr) | ty (n:String)
 deriving DecidableEq
def RelV:V->Value->Prop
 |.non,u=>u=Value.none
 |.bl b,u=>u=Value.bool b
 |.int i,u=>∃t,u=Value.int i t
 |.str x,u=>∃t,u=Value.str x t
 |.byt b,u=>∃t,u=Value.bytes b t
 |.flt b,u=>∃t,u=Value.float b t
 |.ref a,u=>u=Value.ref a
 |.ty n,u=>u=Value.type n
abbrev Vals:List V->List Value->Prop:=Paired RelV
theorem Vals.length{xs:List V}{us:List Value}(r:Vals xs us):xs.length=us.length:=Paired.length r
theorem Vals.get:∀{xs:List V}{us:List Value}{i:Nat}{x:V},Vals xs us->xs[i]?=some x->∃u,us[i]?=some u/\RelV x u
 |_,_,_,_,.nil,e=>by simp at e
 |_,_,0,_,.cons r _,e=>by simp at e;subst e;exact⟨_,rfl,r⟩
 |_,_,i+1,x,.cons _ t,e=>by
  obtain⟨u,h1,h2⟩:=Vals.get (i:=i) (x:=x) t (by simpa using e);exact⟨u,by simpa using h1,h2⟩
theorem Vals.set{x:V}{u:Value}(r:RelV x u):∀{xs:List V}{us:List Value}(i:Nat),Vals xs us->Vals (xs.set i x) (us.set i u)
 |_,_,_,.nil=>.nil
 |_,_,0,.cons _ t=>.cons r t
 |_,_,i+1,.cons q t=>.cons q (Vals.set r i t)
theorem Vals.append{xs ys:List V}{us ws:List Value}(h:Vals xs us)(s:Vals ys ws):Vals (xs++ys) (us++ws):=by
 induction h with
 |nil=>exact s
 |cons r _ ih=>exact .cons r ih
theorem Vals.take:∀{xs:List V}{us:List Value}(n:Nat),Vals xs us->Vals (xs.take n) (us.take n)
 |_,_,0,_=>.nil
 |_,_,_+1,.nil=>.nil
 |_,_,n+1,.cons r t=>.cons r (Vals.take n t)
theorem Vals.drop:∀{xs:List V}{us:List Value}(n:Nat),Vals xs us->Vals (xs.drop n) (us.drop n)
 |_,_,0,r=>r
 |_,_,_+1,.nil=>.nil
 |_,_,n+1,.cons _ t=>Vals.drop n t
def RelO:Option V->Option Value->Prop
 |some v,some u=>RelV v u
 |none,none=>True
 |_,_=>False
def KV{κ:Type}:List (κ×V)->List (κ×Value)->Prop:=Paired fun(p:κ×V) (q:κ×Value)=>p.1=q.1/\RelV p.2 q.2
def kV:Key->V
 |.inl i=>.int i
 |.inr x=>.str x
inductive HO where
  /-- a list -/
  | lst (xs:List V)
  /-- a tuple (never changes) -/
  | tup (xs:List V)
  /-- a dict whose keys are ints and texts; one whose keys are tuples of ints and texts (the empty one is both) -/
  | dK (kvs:List (Key × V)) | dT (kvs:List (List Key × V))
  /-- a set of ints: its members,its size -/
  | set (S:Int->Bool) (n:Nat)
  /-- an instance of the class at C,its dict at dx,its attributes -/
  | ins (C dx:Addr) (fs:List (Str × V))
  /-- the dict of the instance at x -/
  | own (x:Addr)
  /-- the dict of an exception -/
  | xd (fs:List (Str × V))
  /-- a bound method,f of x -/
  | met (f x:Addr)
  /-- a range object lo,lo + 1,.. below hi -/
  | rng (lo hi:Int)
  /-- a thing that is known to the object (the script; a dict while a loop walks it): read,never written while it is so -/
  | frz (o:Obj) (u:HO)
  /-- a code object's table -/
  | tbl (ps:Array Value)
  /-- any other thing,by what is true of its one object (a def of one's own: SetO a S n:=HO.ext fun h=>..) -/
  | ext (φ:Heap->Prop)
abbrev Hp:=Addr->Option HO
def upd(H:Hp)(a:Addr)(o:HO):Hp:=fun b=>if b=a then some o else H b
theorem aC{H:Hp}{a:Addr}{o:HO}:upd H a o a=some o:=by unfold upd;rw[if_pos rfl]
theorem aI{H:Hp}{a b:Addr}{o:HO}(h:b≠a):upd H a o b=H b:=by unfold upd;rw[if_neg h]
theorem Md{H:Hp}{a b:Addr}{o u:HO}(h:H a=some o)(h':H b=some u)(d:o≠u):a≠b:=by
 intro e;subst e;rw[h] at h';exact d (Option.some.inj h')
theorem ba{H:Hp}{a b:Addr}{o:HO}(h:H a=some o)(h':H b=none):a≠b:=by
 intro e;subst e;rw[h] at h';cases h'
section
variable (P : Program) (w : World)
def aY(H:Hp)(h:Heap)(a:Addr):HO->Prop
 |.lst xs=>xs.length<=sizeLine/\∃(its:List Value) (n:Nat),Vals xs its/\h.get? a=some { cls:=.type "list",data:=.seq its.toArray n }
 |.tup xs=>xs.length<=sizeLine/\∃its:List Value,Vals xs its/\IsTup h a its.toArray
 |.dK kvs=>kvs.length<=sizeLine/\(a==sysModules)=false/\∃vs,KV kvs vs/\h.DictOf (bm P w) a vs
 |.dT kvs=>kvs.length<=sizeLine/\(a==sysModules)=false/\∃xs:List (List Key×Addr×Value),
   Paired (fun(p:List Key×V) (q:List Key×Addr×Value)=>p.1=q.1/\H q.2.1=some (.tup (p.1.map kV))/\RelV p.2 q.2.2) kvs xs /\
   ∃o es ep,h.get? a=some o/\o.ExactDict/\o.data=.dict es ep/\es.toList=xs.map (entryOfKey (tupleKind (bm P w)))/\(xs.map (·.1)).Nodup
 |.set S n=>h.SetOf (intKind P w) a S n
 |.ins C dx fs=>H dx=some (.own a)/\fs.length<=1000/\dx≠a/\h.get? a=some (PySem.W.instObj C dx) /\
   ∃mA,h.Ns1 dx mA/\(∀f,RelO (fs.lookup f) (mA f))/\PySem.Within mA (fs.map (·.1))
 |.own _=>∃o,h.get? a=some o
 |.xd fs=>∃mA,h.Ns1 a mA/\∀f,RelO (fs.lookup f) (mA f)
 |.rng lo hi=>∃t u v,h.get? a=some { cls:=.type "range",data:=.fields #[.int lo t,.int hi u,.int 1 v] }
 |.frz o u=>h.get? a=some o/\aY H h a u
 |.tbl ps=>h.get? a=some { cls:=.none,data:=.fields ps }
 |.met f x=>h.get? a=some (PySem.W.methodObj (.ref f) (.ref x))
 |.ext φ=>φ h/\(∃o,h.get? a=some o)/\∀h1 h2:Heap,φ h1->(∀o,h1.get? a=some o->h2.get? a=some o)->φ h2
def HOk(H:Hp)(h:Heap):Prop:=∀a o,H a=some o->aY P w H h a o
end
section
variable {P : Program} {w : World} {H H' : Hp} {h h' : Heap} {a : Addr} {o : HO}
theorem aY.lt(x:aY P w H h a o):a<h.objs.size:=by
 cases o with
 |lst xs=>obtain⟨_,_,_,_,e⟩:=x;exact Heap.lt_size e
 |tup xs=>obtain⟨_,_,_,p⟩:=x;exact p.lt
 |dK kvs=>obtain⟨_,_,_,_,o,_,_,e,_⟩:=x;exact Heap.lt_size e
 |dT kvs=>obtain⟨_,_,_,_,o,_,_,e,_⟩:=x;exact Heap.lt_size e
 |set S n=>obtain⟨o,_,_,_,e,_⟩:=x;exact Heap.lt_size e
 |ins C dx fs=>obtain⟨_,_,_,e,_⟩:=x;exact Heap.lt_size e
 |own y=>obtain⟨_,e⟩:=x;exact Heap.lt_size e
 |xd fs=>obtain⟨_,⟨_,_,_,e,_⟩,_⟩:=x;exact Heap.lt_size e
 |rng lo hi=>obtain⟨_,_,_,e⟩:=x;exact Heap.lt_size e
 |frz ob u=>obtain⟨e,_⟩:=x;exact Heap.lt_size e
 |tbl ps=>exact Heap.lt_size (show h.get? a=some _ from x)
 |met f y=>exact Heap.lt_size (show h.get? a=some _ from x)
 |ext φ=>obtain⟨_,⟨_,e⟩,_⟩:=x;exact Heap.lt_size e
theorem Paired.mapP{α β:Type}{F G:α->β->Prop}{l₁:List α}{l₂:List β}(h:Paired F l₁ l₂)(f:∀a b,F a b->G a b):Paired G l₁ l₂:=by
 induction h with
 |nil=>exact .nil
 |cons r _ ih=>exact .cons (f _ _ r) ih
theorem aY.stay(x:aY P w H h a o)(k:∀b u,(b=a\/H b=some (.own a))->h.get? b=some u->h'.get? b=some u)
  (ho:∀b,H b=some (.own a)->H' b=some (.own a)) (ht:∀b xs,H b=some (.tup xs)->H' b=some (.tup xs)):aY P w H' h' a o:=by
 induction o with
 |lst xs=>obtain⟨z,its,n,r,e⟩:=x;exact⟨z,its,n,r,k _ _ (.inl rfl) e⟩
 |tup xs=>obtain⟨z,its,r,ob,e,c⟩:=x;exact⟨z,its,r,ob,k _ _ (.inl rfl) e,c⟩
 |dK kvs=>obtain⟨z,y,vs,r,ob,es,ep,e,c⟩:=x;exact⟨z,y,vs,r,ob,es,ep,k _ _ (.inl rfl) e,c⟩
 |dT kvs=>
  obtain⟨z,y,xs,r,ob,es,ep,e,c⟩:=x;exact⟨z,y,xs,Paired.mapP r fun p q z=>⟨z.1,ht _ _ z.2.1,z.2.2⟩,ob,es,ep,k _ _ (.inl rfl) e,c⟩
 |set S n=>obtain⟨ob,es,ep,t,e,c⟩:=x;exact⟨ob,es,ep,t,k _ _ (.inl rfl) e,c⟩
 |ins C dx fs=>
  obtain⟨d,z,ne,e,mA,⟨od,es,ep,e2,c⟩,r⟩:=x;exact⟨ho _ d,z,ne,k _ _ (.inl rfl) e,mA,⟨od,es,ep,k _ _ (.inr d) e2,c⟩,r⟩
 |own y=>obtain⟨ob,e⟩:=x;exact⟨ob,k _ _ (.inl rfl) e⟩
 |xd fs=>obtain⟨mA,⟨od,es,ep,e,c⟩,r⟩:=x;exact⟨mA,⟨od,es,ep,k _ _ (.inl rfl) e,c⟩,r⟩
 |rng lo hi=>obtain⟨t,u,v,e⟩:=x;exact⟨t,u,v,k _ _ (.inl rfl) e⟩
 |frz ob u ih=>obtain⟨e,q⟩:=x;exact⟨k _ _ (.inl rfl) e,ih q⟩
 |tbl ps=>
  have e:h.get? a=some { cls:=.none,data:=.fields ps }:=x;show h'.get? a=some { cls:=.none,data:=.fields ps };exact k a _ (.inl rfl) e
 |met f y=>
  have e:h.get? a=some (PySem.W.methodObj (.ref f) (.ref y)):=x;show h'.get? a=some (PySem.W.methodObj (.ref f) (.ref y));exact k a _ (.inl rfl) e
 |ext φ=>obtain⟨p,⟨o,e⟩,st⟩:=x;exact⟨st _ _ p fun o q=>k _ _ (.inl rfl) q,⟨o,k _ _ (.inl rfl) e⟩,st⟩
theorem HOk.lt(x:HOk P w H h)(e:H a=some o):a<h.objs.size:=(x a o e).lt
theorem HOk.fresh(x:HOk P w H h)(e:h.objs.size<=a):H a=none:=by
 cases q:H a with
 |none=>rfl
 |some u=>exact absurd (Nat.lt_of_lt_of_le (x.lt q) e) (Nat.lt_irrefl _)
theorem HOk.kept(x:HOk P w H h)(k:∀b u,h.get? b=some u->h'.get? b=some u):HOk P w H h':=fun a o e=>
 (x a o e).stay (fun b u _ q=>k b u q) (fun _ q=>q) fun _ _ q=>q
theorem HOk.laid(x:HOk P w H h)(k:∀b u,h.get? b=some u->h'.get? b=some u)(hp:h.objs.size<=a)(new:aY P w (upd H a o) h' a o):HOk P w (upd H a o) h':=fun b u e=>by
 have hn:=x.fresh hp;by_cases hb:b=a
 ·subst hb;rw[aC] at e;cases e;exact new
 ·rw[aI hb] at e
  exact(x b u e).stay (fun c v _ q=>k c v q) (fun c q=>by rw[aI (ba q hn)];exact q) fun c xs q=>by rw[aI (ba q hn)];exact q
end
def Rd(H:Hp)(a:Addr)(u:HO):Prop:=H a=some u \/ ∃o,H a=some (.frz o u)
theorem Rd.ok{P:Program}{w:World}{H:Hp}{h:Heap}{a:Addr}{u:HO}(r:Rd H a u)(x:HOk P w H h):aY P w H h a u:=by
 rcases r with r | ⟨o,r⟩
 ·exact x a u r
 ·obtain⟨_,q⟩:=x a _ r
  exact q
def Mut:Option HO->Prop
 |some (.lst _)=>True
 |some (.dK _)=>True
 |some (.dT _)=>True
 |some (.set _ _)=>True
 |some (.ins _ _ _)=>True
 |some (.ext _)=>True
 |_=>False
section
variable {P : Program} {w : World} {H : Hp} {h h' : Heap} {x e : Addr} {o' : HO}
theorem HOk.write(ok:HOk P w H h)(mu:Mut (H x))(he:e=x\/H e=some (.own x))(k:∀b u,b≠e->h.get? b=some u->h'.get? b=some u)(heo:∃u,h'.get? e=some u)
  (new:aY P w (upd H x o') h' x o'):HOk P w (upd H x o') h':=fun b u q=>by
 have nown:∀c y,H c=some (.own y)->c≠x:=fun c y r z=>by subst z;rw[r] at mu;exact mu
 have ntup:∀c xs,H c=some (.tup xs)->c≠x:=fun c xs r z=>by subst z;rw[r] at mu;exact mu
 by_cases hb:b=x
 ·subst hb;rw[aC] at q;cases q;exact new
 ·rw[aI hb] at q
  by_cases hbe:b=e
  ·have q':H b=some (.own x):=by
    rcases he with z | z
    ·exact absurd (hbe.trans z) hb
    ·rw[hbe];exact z
   rw[q] at q';cases q';obtain⟨v,hv⟩:=heo;exact⟨v,by rw[hbe];exact hv⟩
  ·refine(ok b u q).stay (fun c v hc r=>k c v ?_ r) (fun c r=>by rw[aI (nown c b r)];exact r) fun c xs r=>by rw[aI (ntup c xs r)];exact r
   rcases hc with rfl | hc
   ·exact hbe
   ·rintro rfl
    rcases he with z | z
    ·exact nown c b hc z
    ·rw[hc] at z;cases z;exact hb rfl
end
structure Un (fs ex:List Addr) (H H':Hp) (h h':Heap):Prop where
 keep:∀b o,h.get? b=some o->H b=none->b∉fs->b∉ex->h'.get? b=some o
 slot:∀b o,h.get? b=some o->H b=none->b∈fs->b∉ex->∃sl,h'.get? b=some { o with slots:=sl }
 free:∀b o,h.get? b=some o->H b=none->b∉ex->H' b=none
 there:∀b o,h.get? b=some o->b∉ex->∃o',h'.get? b=some o'
 tups:∀b xs,H b=some (.tup xs)->H' b=some (.tup xs)
 frzs:∀b o u,H b=some (.frz o u)->H' b=some (.frz o u)
 tbls:∀b ps,H b=some (.tbl ps)->∃more,H' b=some (.tbl (ps++more))
section
variable {fs fs' ex ex' : List Addr} {H H1 H2 : Hp} {h h1 h2 h' : Heap} {a x e : Addr} {o : HO}
theorem Un.any(u:Un fs ex H H1 h h1){b:Addr}{ob:Obj}(q:h.get? b=some ob)(n:H b=none)(hx:b∉ex):∃sl,h1.get? b=some { ob with slots:=sl }:=by
 by_cases hb:b∈fs
 ·exact u.slot b ob q n hb hx
 ·exact⟨ob.slots,u.keep b ob q n hb hx⟩
theorem Un.kept(k:∀b u,h.get? b=some u->h'.get? b=some u):Un fs ex H H h h':=
 ⟨fun b ob q _ _ _=>k b ob q,fun b ob q _ _ _=>⟨ob.slots,k b ob q⟩,fun _ _ _ n _=>n,fun b ob q _=>⟨ob,k b ob q⟩,fun _ _ q=>q,fun _ _ _ q=>q,fun _ ps q=>⟨#[],by rw[q];simp⟩⟩
theorem Un.refl:Un fs ex H H h h:=Un.kept fun _ _ q=>q
theorem Un.laid(k:∀b u,h.get? b=some u->h'.get? b=some u)(hp:h.objs.size<=a)(hn:H a=none):Un fs ex H (upd H a o) h h' where
 keep:=fun b u q _ _ _=>k b u q
 slot:=fun b u q _ _ _=>⟨u.slots,k b u q⟩
 free:=fun b u q n _=>by rw[aI (Nat.ne_of_lt (Nat.lt_of_lt_of_le (Heap.lt_size q) hp))];exact n
 there:=fun b u q _=>⟨u,k b u q⟩
 tups:=fun b xs q=>by rw[aI (ba q hn)];exact q
 frzs:=fun b u xs q=>by rw[aI (ba q hn)];exact q
 tbls:=fun b ps q=>⟨#[],by rw[aI (ba q hn),q];simp⟩
theorem Un.write(mu:Mut (H x))(he:e=x\/H e=some (.own x))(k:∀b u,b≠e->h.get? b=some u->h'.get? b=some u)(heo:∃u,h'.get? e=some u):Un fs ex H (upd H x o) h h':=by
 have hx:∀b,H b=none->b≠x:=fun b n z=>by subst z;rw[n] at mu;exact mu
 have hb:∀b,H b=none->b≠e:=fun b n z=>by
  subst z;rcases he with r | r
  ·exact hx b n r
  ·rw[n] at r;cases r
 have hm:∀b u,H b=some u->¬Mut (some u)->b≠x:=fun b u q nm z=>by subst z;rw[q] at mu;exact nm mu
 refine⟨fun b u q n _ _=>k b u (hb b n) q,fun b u q n _ _=>⟨u.slots,k b u (hb b n) q⟩,fun b u q n _=>by rw[aI (hx b n)];exact n,fun b u q _=>?_,
  fun b xs q=>by rw[aI (hm b _ q fun z=>z)];exact q,fun b u xs q=>by rw[aI (hm b _ q fun z=>z)];exact q,fun b ps q=>⟨#[],by rw[aI (hm b _ q fun z=>z),q];simp⟩⟩
 by_cases hbe:b=e
 ·subst hbe;exact heo
 ·exact⟨u,k b u hbe q⟩
end
def trk(h:Heap)(H:Hp):List Addr:=(List.range h.objs.size).filter fun a=>(H a).isSome
def hidT(h:Heap)(H:Hp):Heap:=PySem.W.hideAll h (trk h H)
theorem Fp(h:Heap)(H:Hp):(hidT h H).objs.size=h.objs.size:=PySem.W.hideAll_size _ _
theorem GV{h:Heap}{H:Hp}{b:Addr}{o:Obj}(e:h.get? b=some o)(n:H b=none):(hidT h H).get? b=some o:=
 PySem.W.hideAll_get _ e fun hm=>by
  have q:(H b).isSome=true:=(List.mem_filter.mp hm).2;rw[n] at q;simp at q
theorem IR{h:Heap}{H:Hp}{b:Addr}{o:Obj}(e:(hidT h H).get? b=some o):h.get? b=some o/\H b=none:=by
 have e':h.get? b=some o:=PySem.W.of_hideAll (trk h H) e;refine⟨e',?_⟩;cases q:H b with
 |none=>rfl
 |some x=>
  have hm:b∈trk h H:=List.mem_filter.mpr ⟨List.mem_range.mpr (Heap.lt_size e'),by simp[q]⟩;have z:(hidT h H).get? b=none:=PySem.W.hideAll_none (trk h H) hm;rw[z] at e;cases e
def IS(g h:Heap)(L:Addr):List (Addr×Obj):=(List.range h.objs.size).filterMap fun a=>if a=L\/(g.get? a).isSome=true then none else(h.get? a).map fun o=>(a,o)
def rest(g h:Heap)(L d:Addr):List (Addr×Obj):=(IS g h L).filter fun p=>decide (p.1≠d)
end L2
namespace L2
open PySem PySem.Spec PyProof.Rows
structure Mod (K:PySem.W.Frag) (mg:Str->Option Value) (base:Heap):Prop where
 kin:K.In base
 glob:base.Ns mainGlobals mg
 blt:∃mb,base.Ns builtinsNs mb/\∀x:Str,x ≠ "__name__"->mb x=bootBuiltins x
 nolimit:base.NoLimit
structure Cx where
 prog:Program
 w:World
 K:PySem.W.Frag
 mg:Str->Option Value
 base:Heap
 A:Around
 N:List Str
 s₀:Shared
 H₀:Hp
 env:Env
 outer:List Env
 stack:List Env
 ex:List Addr
 fn:Str->Bool
 calm:Bool
 pn:List (Addr×Obj)
 xe:Value->Shared->Prop
def frs(l:List Env):List Addr:=l.filterMap (·.frame)
abbrev Cx.fs(X:Cx):List Addr:=frs X.outer
def Vis(sc:Scope)(x:Str):Prop:=sc.names.lookup x=some .local \/ sc.names.lookup x=some .cell\/sc.names.lookup x=some .free
def Loc(sc:Scope)(x:Str):Prop:=sc.names.lookup x=some .local \/ sc.names.lookup x=some .cell
def Look(env:Env)(h:Heap)(m:Str->Option Value)(x:Str)(u:Value):Prop:=
 (env.kindOf x=some .local/\m x=some u)\/((env.kindOf x=some .cell\/env.kindOf x=some .free)/\∃c,env.cells.lookup x=some c/\h.IsCell c (some u))
structure Cx.Ok (X:Cx):Prop where
 mod:Mod X.K X.mg X.base
 kind:X.env.scope.kind=.function
 glob:X.env.globals=mainGlobals
 blt:X.env.builtins=builtinsNs
 above:X.s₀.heap.objs.size<=X.env.locals
 inj:∀x y c,X.env.cells.lookup x=some c->X.env.cells.lookup y=some c->x=y
 has:∀x,(X.env.kindOf x=some .cell\/X.env.kindOf x=some .free)->∃c,X.env.cells.lookup x=some c
 cab:∀x c,X.fn x=true->X.env.cells.lookup x=some c->X.s₀.heap.objs.size<=c
 hd:X.calm=true->X.A.handled=none
 frames:X.A.frames=some X.stack
 stk:X.stack=X.outer\/(X.stack=X.env::X.outer/\X.env.frame=some X.env.locals)
 exf:∀b∈X.ex,b≠X.env.locals/\∀x c,X.env.cells.lookup x=some c->c≠b
 bs:∀b o,X.base.get? b=some o->X.s₀.heap.get? b=some o/\X.H₀ b=none
 bsz:X.base.objs.size<=X.s₀.heap.objs.size
 noex:∀b o,X.base.get? b=some o->b∉X.ex
 exfs:∀b∈X.ex,b∉X.fs
 funs:X.s₀.heap.FunFrames X.base X.outer
 frf:∀b∈X.fs,X.H₀ b=none
structure Inv (X:Cx) (pins:List (Addr×Obj)) (σ:List (Option V)) (H:Hp) (s:Shared):Prop where
 ok:X.Ok
 os:s.os=X.s₀.os
 bare:AllBare s.gens
 base:Un X.fs X.ex X.H₀ H X.s₀.heap s.heap
 loc:∃m,s.heap.Ns X.env.locals m/\∀(i:Nat) (x:Str) (v:V),X.N[i]?=some x->σ[i]?=some (some v)->Vis X.env.scope x->∃u,RelV v u/\Look X.env s.heap m x u
 cell:∀x c,X.env.cells.lookup x=some c->∃v,s.heap.IsCell c v
 free:H X.env.locals=none
 freeC:∀x c,X.env.cells.lookup x=some c->H c=none
 pin:∀p∈X.pn++pins,s.heap.get? p.1=some p.2/\H p.1=none/\p.1≠X.env.locals/\p.1∉X.fs/\∀v,p.2.data≠.cell v
 hok:HOk X.prog X.w H s.heap
 len:σ.length=X.N.length
section
variable {X : Cx} {pins : List (Addr × Obj)} {σ : List (Option V)} {H H' : Hp} {s : Shared} {h' : Heap}
theorem Cx.Ok.nofr(ok:X.Ok){b:Addr}{o:Obj}(e:X.base.get? b=some o):b∉X.fs:=fun hb=>by
 have:=(ok.funs.mem hb).1
 rw[e] at this;cases this
theorem Inv.bs(I:Inv X pins σ H s):∀b o,X.base.get? b=some o->s.heap.get? b=some o/\H b=none:=fun b o e=>
 ⟨I.base.keep b o (I.ok.bs b o e).1 (I.ok.bs b o e).2 (I.ok.nofr e) (I.ok.noex b o e),I.base.free b o (I.ok.bs b o e).1 (I.ok.bs b o e).2 (I.ok.noex b o e)⟩
theorem Inv.bk(I:Inv X pins σ H s):∀b o,X.base.get? b=some o->s.heap.get? b=some o:=fun b o e=>(I.bs b o e).1
theorem Inv.mod(I:Inv X pins σ H s):Mod X.K X.mg X.base:=I.ok.mod
theorem Inv.kIn(I:Inv X pins σ H s):X.K.In s.heap:=I.ok.mod.kin.keeps I.bk
theorem Inv.lt(I:Inv X pins σ H s):X.env.locals<s.heap.objs.size:=let⟨_,hn,_⟩:=I.loc;hn.lt
theorem Inv.sz(I:Inv X pins σ H s):X.s₀.heap.objs.size<=s.heap.objs.size:=Nat.le_trans I.ok.above (Nat.le_of_lt I.lt)
theorem Inv.nofs(I:Inv X pins σ H s){a:Addr}(h:s.heap.objs.size<=a):a∉X.fs:=fun hb=>by
 obtain⟨_,o,ho,_⟩:=I.ok.funs.mem hb;exact absurd (Nat.lt_of_lt_of_le (Heap.lt_size ho) (Nat.le_trans I.sz h)) (Nat.lt_irrefl _)
theorem Inv.cne(I:Inv X pins σ H s):∀x c,X.env.cells.lookup x=some c->c≠X.env.locals:=fun x c e z=>by
 obtain⟨v,o,ho,hd⟩:=I.cell x c e;obtain⟨m,⟨o',es,ep,ho',hd',_⟩,_⟩:=I.loc;rw[z,ho'] at ho;cases ho;rw[hd'] at hd;cases hd
theorem Inv.funs(I:Inv X pins σ H s):s.heap.FunFrames X.base X.outer:=by
 have all:∀(l:List Env),(∀b∈frs l,b∈X.fs)->X.s₀.heap.FunFrames X.base l->s.heap.FunFrames X.base l:=by
  intro l;induction l with
  |nil=>intro _ _;trivial
  |cons env r ih=>
   intro hs hl;obtain⟨hk,⟨L,o,hf,hn,ho,hd⟩,hr⟩:=hl;have hL:L∈X.fs:=hs L (by unfold frs;rw[List.filterMap_cons,hf];exact List.mem_cons_self);obtain⟨sl,e⟩:=I.base.slot L o ho (I.ok.frf L hL) hL fun z=>I.ok.exfs L z hL
   exact⟨hk,⟨L,_,hf,hn,e,hd⟩,ih (fun b hb=>hs b (by unfold frs;rw[List.filterMap_cons,hf];exact List.mem_cons_of_mem _ hb)) hr⟩
 exact all X.outer (fun _ hb=>hb) I.ok.funs
theorem Inv.stack(I:Inv X pins σ H s):s.heap.FunFrames X.base X.stack:=by
 rcases I.ok.stk with e | ⟨e,hf⟩
 ·rw[e];exact I.funs
 ·rw[e]
  obtain⟨m,hn,_⟩:=I.loc;refine .cons (by rw[I.ok.kind];decide) hf hn ?_ I.funs;exact Heap.get?_none_of_le (Nat.le_trans I.ok.bsz I.ok.above)
theorem Inv.stkSub(I:Inv X pins σ H s):∀b∈frs X.stack,b∈X.env.locals::X.fs:=fun b hb=>by
 rcases I.ok.stk with e | ⟨e,hf⟩
 ·rw[e] at hb;exact List.mem_cons_of_mem _ hb
 ·rw[e] at hb
  unfold frs at hb;rw[List.filterMap_cons,hf] at hb;exact hb
theorem Inv.stkFree(I:Inv X pins σ H s):∀b∈frs X.stack,H b=none:=fun b hb=>by
 rcases List.mem_cons.mp (I.stkSub b hb) with e | hb
 ·rw[e];exact I.free
 ·obtain⟨_,o,ho,_⟩:=I.ok.funs.mem hb
  exact I.base.free b o ho (I.ok.frf b hb) fun z=>I.ok.exfs b z hb
theorem Inv.step{g':Array GenState}{t':Nat}{d':Drawn}{ch:List Addr}(I:Inv X pins σ H s)
  (hch:∀b∈ch,(b∈X.ex\/X.s₀.heap.objs.size<=b)/\b≠X.env.locals/\(∀x c,X.env.cells.lookup x=some c->c≠b)/\∀p∈X.pn++pins,p.1≠b)
  (keep:∀b o,b≠X.env.locals->b∉X.fs->b∉ch->s.heap.get? b=some o->H b=none->h'.get? b=some o)
  (slot:∀b o,b≠X.env.locals->b∈X.fs->b∉ch->s.heap.get? b=some o->H b=none->∃sl,h'.get? b=some { o with slots:=sl }) (free:∀b o,b∉ch->s.heap.get? b=some o->H b=none->H' b=none)
  (there:∀b o,b∉ch->s.heap.get? b=some o->∃o',h'.get? b=some o')
  (tups:∀b xs,H b=some (.tup xs)->H' b=some (.tup xs)) (frzs:∀b o u,H b=some (.frz o u)->H' b=some (.frz o u)) (tbls:∀b ps,H b=some (.tbl ps)->∃more,H' b=some (.tbl (ps++more)))
  (ns:∀m,s.heap.Ns X.env.locals m->h'.Ns X.env.locals m) (hok:HOk X.prog X.w H' h') (hg:AllBare g'):
  Inv X pins σ H' { s with heap:=h',gens:=g',drawn:=d',toks:=t' }:=by
 have neL:∀b o,X.s₀.heap.get? b=some o->b≠X.env.locals:=fun b o e=>Nat.ne_of_lt (Nat.lt_of_lt_of_le (Heap.lt_size e) I.ok.above)
 have neC:∀b o,X.s₀.heap.get? b=some o->b∉X.ex->b∉ch:=fun b o e hx hb=>by
  rcases(hch b hb).1 with z | z
  ·exact hx z
  ·exact absurd (Nat.lt_of_lt_of_le (Heap.lt_size e) z) (Nat.lt_irrefl _)
 have cellK:∀x c,X.env.cells.lookup x=some c->∀v,s.heap.IsCell c v->h'.IsCell c v:=fun x c e v ⟨o,ho,hd⟩=>by
  have nch:c∉ch:=fun z=>(hch c z).2.2.1 x c e rfl
  by_cases hc:c∈X.fs
  ·obtain⟨sl,q⟩:=slot c o (I.cne x c e) hc nch ho (I.freeC x c e)
   exact⟨_,q,hd⟩
  ·exact⟨o,keep c o (I.cne x c e) hc nch ho (I.freeC x c e),hd⟩
 refine⟨I.ok,I.os,hg,⟨fun b o e n hb hx=>?_,fun b o e n hb hx=>?_,fun b o e n hx=>?_,fun b o e hx=>?_,fun b xs e=>tups b xs (I.base.tups b xs e),fun b o xs e=>frzs b o xs (I.base.frzs b o xs e),fun b ps e=>?_⟩,?_,fun x c e=>?_,?_,fun x c e=>?_,fun p hp=>?_,hok,I.len⟩
 ·exact keep b o (neL b o e) hb (neC b o e hx) (I.base.keep b o e n hb hx) (I.base.free b o e n hx)
 ·obtain⟨sl,e1⟩:=I.base.slot b o e n hb hx
  obtain⟨sl',e2⟩:=slot b _ (neL b o e) hb (neC b o e hx) e1 (I.base.free b o e n hx);exact⟨sl',e2⟩
 ·obtain⟨o',e1⟩:=I.base.there b o e hx
  exact free b o' (neC b o e hx) e1 (I.base.free b o e n hx)
 ·obtain⟨o',e1⟩:=I.base.there b o e hx
  exact there b o' (neC b o e hx) e1
 ·obtain⟨m1,e1⟩:=I.base.tbls b ps e
  obtain⟨m2,e2⟩:=tbls b _ e1;exact⟨m1++m2,by rw[e2,Array.append_assoc]⟩
 ·obtain⟨m,hn,hl⟩:=I.loc
  refine⟨m,ns m hn,fun i x v e1 e2 e3=>?_⟩;obtain⟨u,r,l⟩:=hl i x v e1 e2 e3;refine⟨u,r,?_⟩;rcases l with l | ⟨k,c,e,z⟩
  ·exact .inl l
  ·exact .inr ⟨k,c,e,cellK x c e _ z⟩
 ·obtain⟨v,z⟩:=I.cell x c e
  exact⟨v,cellK x c e v z⟩
 ·obtain⟨m,⟨o,_,_,ho,_⟩,_⟩:=I.loc
  exact free _ o (fun z=>(hch _ z).2.1 rfl) ho I.free
 ·obtain⟨v,o,ho,hd⟩:=I.cell x c e
  exact free c o (fun z=>(hch c z).2.2.1 x c e rfl) ho (I.freeC x c e)
 ·obtain⟨e,n,ne,nf,d⟩:=I.pin p hp
  have nch:p.1∉ch:=fun z=>(hch p.1 z).2.2.2 p hp rfl
  exact⟨keep p.1 p.2 ne nf nch e n,free p.1 p.2 nch e n,ne,nf,d⟩
theorem Inv.un{t':Nat}(I:Inv X pins σ H s)(u:Un X.fs [] H H' s.heap h')(hok:HOk X.prog X.w H' h'):Inv X pins σ H' { s with heap:=h',toks:=t' }:=by
 obtain⟨m,⟨o,es,ep,ho,r⟩,_⟩:=id I.loc;obtain⟨sl,hL⟩:=u.any ho I.free (by simp);exact I.step (g':=s.gens) (d':=s.drawn) (ch:=[]) (fun _ z=>nomatch z) (fun b o _ hb _ e n=>u.keep b o e n hb (by simp)) (fun b o _ hb _ e n=>u.slot b o e n hb (by simp)) (fun b o _ e n=>u.free b o e n (by simp)) (fun b o _ e=>u.there b o e (by simp)) u.tups u.frzs u.tbls (fun m' hm=>by
  obtain⟨o',es',ep',ho',r'⟩:=hm;rw[ho] at ho';cases ho';exact⟨_,es',ep',hL,r'⟩) hok I.bare
theorem Inv.call{g':Array GenState}{t':Nat}{d':Drawn}{ch:List Addr}(I:Inv X pins σ H s)(u:Un (frs X.stack) ch H H' s.heap h')(hok:HOk X.prog X.w H' h')(hg:AllBare g')
  (hch:∀b∈ch,(b∈X.ex\/X.s₀.heap.objs.size<=b)/\b≠X.env.locals/\(∀x c,X.env.cells.lookup x=some c->c≠b)/\∀p∈X.pn++pins,p.1≠b):
  Inv X pins σ H' { s with heap:=h',gens:=g',drawn:=d',toks:=t' }:=by
 obtain⟨m,⟨o,es,ep,ho,r⟩,_⟩:=id I.loc;obtain⟨sl,hL⟩:=u.any ho I.free fun z=>(hch _ z).2.1 rfl
 exact I.step (ch:=ch) hch (fun b o hL hb hc e n=>u.keep b o e n (fun z=>(List.mem_cons.mp (I.stkSub b z)).elim hL hb) hc) (fun b o _ _ hc e n=>u.any e n hc) (fun b o hc e n=>u.free b o e n hc) (fun b o hc e=>u.there b o e hc) u.tups u.frzs u.tbls (fun m' hm=>by
  obtain⟨o',es',ep',ho',r'⟩:=hm;rw[ho] at ho';cases ho';exact⟨_,es',ep',hL,r'⟩) hok hg
theorem Inv.turned{t':Nat}{it:Addr}(I:Inv X pins σ H s)(k:∀b o,b≠it->s.heap.get? b=some o->h'.get? b=some o)(hn:H it=none)(hL:it≠X.env.locals)
  (h1:it∈X.ex\/X.s₀.heap.objs.size<=it) (h2:∀x c,X.env.cells.lookup x=some c->c≠it) (h3:∀p∈X.pn++pins,p.1≠it):Inv X pins σ H { s with heap:=h',toks:=t' }:=by
 have nit:∀b u,H b=some u->b≠it:=fun b u e z=>by rw[z,hn] at e;cases e
 refine I.step (g':=s.gens) (d':=s.drawn) (ch:=[it]) (fun b hb=>?_) (fun b o _ _ hc e _=>k b o (fun z=>hc (by simp[z])) e) (fun b o _ _ hc e _=>⟨o.slots,k b o (fun z=>hc (by simp[z])) e⟩) (fun _ _ _ _ n=>n)
  (fun b o hc e=>⟨o,k b o (fun z=>hc (by simp[z])) e⟩) (fun _ _ e=>e) (fun _ _ _ e=>e) (fun b ps e=>⟨#[],by rw[e];simp⟩) (fun m hm=>?_) (fun b u e=>?_) I.bare
 ·have e:b=it:=by simpa using hb
  subst e;exact⟨h1,hL,h2,h3⟩
 ·obtain⟨o,es,ep,ho,r⟩:=hm
  exact⟨o,es,ep,k _ o (Ne.symm hL) ho,r⟩
 ·refine(I.hok b u e).stay (fun c v hc q=>k c v ?_ q) (fun _ q=>q) fun _ _ q=>q
  rcases hc with z | z
  ·rw[z];exact nit b u e
  ·exact nit c _ z
theorem Inv.tok(I:Inv X pins σ H s)(t:Nat):Inv X pins σ H { s with toks:=t }:=I.un (h':=s.heap) (t':=t) Un.refl I.hok
theorem Inv.kept{t':Nat}(I:Inv X pins σ H s)(k:∀b u,s.heap.get? b=some u->h'.get? b=some u):Inv X pins σ H { s with heap:=h',toks:=t' }:=I.un (Un.kept k) (I.hok.kept k)
theorem Inv.laid{a:Addr}{o:HO}{t':Nat}(I:Inv X pins σ H s)(k:∀b u,s.heap.get? b=some u->h'.get? b=some u)(hp:s.heap.objs.size<=a)(new:aY X.prog X.w (upd H a o) h' a o):
  Inv X pins σ (upd H a o) { s with heap:=h',toks:=t' }:=I.un (Un.laid k hp (I.hok.fresh hp)) (I.hok.laid k hp new)
theorem Inv.write{x e:Addr}{o:HO}{t':Nat}(I:Inv X pins σ H s)(mu:Mut (H x))(he:e=x\/H e=some (.own x))(k:∀b u,b≠e->s.heap.get? b=some u->h'.get? b=some u)(heo:∃u,h'.get? e=some u)
  (new:aY X.prog X.w (upd H x o) h' x o):Inv X pins σ (upd H x o) { s with heap:=h',toks:=t' }:=I.un (Un.write mu he k heo) (I.hok.write mu he k heo new)
theorem Inv.pins_of{pins':List (Addr×Obj)}(I:Inv X pins σ H s)(h:∀p∈pins',s.heap.get? p.1=some p.2/\H p.1=none/\p.1≠X.env.locals/\p.1∉X.fs/\∀v,p.2.data≠.cell v):Inv X pins' σ H s:=
 ⟨I.ok,I.os,I.bare,I.base,I.loc,I.cell,I.free,I.freeC,fun p hp=>(List.mem_append.mp hp).elim (fun z=>I.pin p (List.mem_append_left _ z)) (h p),I.hok,I.len⟩
theorem zD{N:List Str}(hN:N.Nodup){i j:Nat}{x:Str}(a:N[i]?=some x)(b:N[j]?=some x):i=j:=by
 obtain⟨h1,e1⟩:=List.getElem?_eq_some_iff.mp a;obtain⟨h2,e2⟩:=List.getElem?_eq_some_iff.mp b;exact(List.getElem_inj hN).mp (e1.trans e2.symm)
theorem xQ {M:Model} {A:Around} {E:Value->Shared->Prop} {i:Nat} {x:Str} {v:V} {u:Value} {Q:Unit->Shared->Prop} (I:Inv X pins σ H s) (hN:X.N.Nodup) (hi:X.N[i]? = some x) (hx:Loc X.env.scope x) (r:RelV v u)
    (h:∀ s',Inv X pins (σ.set i (some v)) H s'->(∃ a,Heap.SameBut a s.heap s'.heap/\(a = X.env.locals \/ X.env.cells.lookup x = some a))->Q () s') (hf:X.fn x = true \/ X.env.scope.names.lookup x = some .local:=by first | exact .inl rfl | exact .inr rfl | assumption):wpAny M A (storeName X.env x u) Q E s:=by
  obtain ⟨m,hn,hl⟩:=id I.loc
  have hcls:(X.env.scope.kind == .class || (X.env.scope.kind == .module && X.env.locals != X.env.globals)) = false:=by rw [I.ok.kind]; rfl
  have hiσ:i < σ.length:=by rw [I.len]; exact (List.getElem?_eq_some_iff.mp hi).1
  have cne:=I.cne
  have tracked:∀ {a:Addr} {h':Heap},(∃ o,s.heap.get? a = some o/\H a = none)->Heap.SameBut a s.heap h'->HOk X.prog X.w H h':=fun {a h'} ha hs b ob e=>by
    obtain ⟨_,_,hfree⟩:=ha
    refine (I.hok b ob e).stay (fun c w' hc q=>(hs.2 c ?_).trans q) (fun _ q=>q) fun _ _ q=>q
    rintro rfl
    rcases hc with rfl | hc
    · rw [hfree] at e; cases e
    · rw [hfree] at hc; cases hc
  rcases hx with hk | hk
  · refine wpAny_storeName_local hk hn (fun h' hn' hs=>?_) hcls
    obtain ⟨oL,_,_,hoL,_⟩:=id hn
    refine h _ ⟨I.ok,I.os,I.bare,⟨fun b o e n hb hx=>?_,fun b o e n hb hx=>?_,I.base.free,fun b o e hx=>?_,I.base.tups,I.base.frzs,I.base.tbls⟩,⟨_,hn',fun j y v' e1 e2 e3=>?_⟩,fun y c e=>?_,I.free,I.freeC,fun p hp=>?_,tracked ⟨oL,hoL,I.free⟩ hs,by simpa using I.len⟩ ⟨_,hs,.inl rfl⟩
    · exact (hs.2 b (Nat.ne_of_lt (Nat.lt_of_lt_of_le (Heap.lt_size e) I.ok.above))).trans (I.base.keep b o e n hb hx)
    · obtain ⟨sl,e1⟩:=I.base.slot b o e n hb hx
      exact ⟨sl,(hs.2 b (Nat.ne_of_lt (Nat.lt_of_lt_of_le (Heap.lt_size e) I.ok.above))).trans e1⟩
    · obtain ⟨o',e1⟩:=I.base.there b o e hx
      exact ⟨o',(hs.2 b (Nat.ne_of_lt (Nat.lt_of_lt_of_le (Heap.lt_size e) I.ok.above))).trans e1⟩
    · by_cases hj:j = i
      · subst hj
        rw [hi] at e1; cases e1
        rw [List.getElem?_set_self hiσ] at e2
        cases e2
        exact ⟨u,r,.inl ⟨hk,by simp⟩⟩
      · rw [List.getElem?_set_ne (Ne.symm hj)] at e2
        obtain ⟨u',r',q⟩:=hl j y v' e1 e2 e3
        refine ⟨u',r',?_⟩
        rcases q with ⟨k,e⟩ | ⟨k,c,e,z⟩
        · refine .inl ⟨k,?_⟩
          have:y ≠ x:=fun e=>hj (zD hN e1 (e ▸ hi))
          simp [this,e]
        · exact .inr ⟨k,c,e,z.sameBut hs (cne y c e)⟩
    · obtain ⟨w',z⟩:=I.cell y c e
      exact ⟨w',z.sameBut hs (cne y c e)⟩
    · obtain ⟨e,n,ne,nf,d⟩:=I.pin p hp
      exact ⟨(hs.2 p.1 ne).trans e,n,ne,nf,d⟩
  · have hfn:X.fn x = true:=by
      rcases hf with z | z
      · exact z
      · rw [z] at hk; cases hk
    obtain ⟨c,hc⟩:=I.ok.has x (.inl hk)
    obtain ⟨w',z⟩:=I.cell x c hc
    refine wpAny_storeName_cell I.ok.kind hk hc z (fun h' hc' hs=>?_)
    obtain ⟨oc,hoc,hocd⟩:=id z
    refine h { s with heap:=h' } ⟨I.ok,I.os,I.bare,⟨fun b o e n hb hx=>?_,fun b o e n hb hx=>?_,I.base.free,fun b o e hx=>?_,I.base.tups,I.base.frzs,I.base.tbls⟩,⟨m,hn.sameBut hs (Ne.symm (cne x c hc)),fun j y v' e1 e2 e3=>?_⟩,fun y c' e=>?_,I.free,I.freeC,fun p hp=>?_,tracked ⟨oc,hoc,I.freeC x c hc⟩ hs,by simpa using I.len⟩ ⟨c,hs,.inr hc⟩
    · exact (hs.2 b (Nat.ne_of_lt (Nat.lt_of_lt_of_le (Heap.lt_size e) (I.ok.cab x c hfn hc)))).trans (I.base.keep b o e n hb hx)
    · obtain ⟨sl,e1⟩:=I.base.slot b o e n hb hx
      exact ⟨sl,(hs.2 b (Nat.ne_of_lt (Nat.lt_of_lt_of_le (Heap.lt_size e) (I.ok.cab x c hfn hc)))).trans e1⟩
    · obtain ⟨o',e1⟩:=I.base.there b o e hx
      exact ⟨o',(hs.2 b (Nat.ne_of_lt (Nat.lt_of_lt_of_le (Heap.lt_size e) (I.ok.cab x c hfn hc)))).trans e1⟩
    · by_cases hj:j = i
      · subst hj
        rw [hi] at e1; cases e1
        rw [List.getElem?_set_self hiσ] at e2
        cases e2
        exact ⟨u,r,.inr ⟨.inl hk,c,hc,hc'⟩⟩
      · rw [List.getElem?_set_ne (Ne.symm hj)] at e2
        obtain ⟨u',r',q⟩:=hl j y v' e1 e2 e3
        refine ⟨u',r',?_⟩
        rcases q with q | ⟨k,c',e,z'⟩
        · exact .inl q
        · refine .inr ⟨k,c',e,z'.sameBut hs ?_⟩
          rintro rfl
          exact hj (zD hN e1 (I.ok.inj _ _ _ e hc ▸ hi))
    · by_cases hcc:c' = c
      · subst hcc; exact ⟨_,hc'⟩
      · obtain ⟨w2,z2⟩:=I.cell y c' e
        exact ⟨w2,z2.sameBut hs hcc⟩
    · obtain ⟨e,n,ne,nf,d⟩:=I.pin p hp
      refine ⟨(hs.2 p.1 ?_).trans e,n,ne,nf,d⟩
      intro q
      rw [q,hoc] at e
      have q':oc = p.2:=Option.some.inj e
      exact d w' (by rw [← q']; exact hocd)
theorem zE{M:Model}{A:Around}{E:Value->Shared->Prop}{i:Nat}{x:Str}{v:V}{u:Value}{Q:Unit->Shared->Prop}(I:Inv X pins σ H s)(hN:X.N.Nodup)(hi:X.N[i]?=some x)(hx:Loc X.env.scope x)(r:RelV v u)
  (h:∀s',Inv X pins (σ.set i (some v)) H s'->Q () s') (hf:X.fn x=true\/X.env.scope.names.lookup x=some .local:=by first | exact .inl rfl | exact .inr rfl | assumption):wpAny M A (storeName X.env x u) Q E s:=
 xQ I hN hi hx r (fun s' I' _=>h s' I') hf
theorem Inv.call'{s':Shared}{ch:List Addr}(I:Inv X pins σ H s)(ho:s'.os=s.os)(u:Un (frs X.stack) ch H H' s.heap s'.heap)(hok:HOk X.prog X.w H' s'.heap)(hg:AllBare s'.gens)
  (hch:∀b∈ch,(b∈X.ex\/X.s₀.heap.objs.size<=b)/\b≠X.env.locals/\(∀x c,X.env.cells.lookup x=some c->c≠b)/\∀p∈X.pn++pins,p.1≠b):Inv X pins σ H' s':=by
 obtain⟨h',g',d',t',o'⟩:=s';have e:o'=s.os:=ho;subst e;exact I.call (g':=g') (t':=t') (d':=d') u hok hg hch
end
abbrev XK:=Value->Option Addr->Hp->Prop
abbrev St:=List (Option V)
abbrev VK:=V->Hp->Prop
abbrev TE:=St->Hp->VK->Prop
abbrev TT:=St->Hp->(Bool->Hp->Prop)->Prop
abbrev TA:=St->Hp->(List V->Hp->Prop)->Prop
structure Ends where
 nx:St->Hp->Prop
 rt:VK
 bk:St->Hp->Prop:=fun _ _=>False
 ct:St->Hp->Prop:=fun _ _=>False
abbrev TS:=Ends->St->Hp->Prop
def EP(X:Cx)(pins:List (Addr×Obj))(σ:St)(Q:VK)(u:Value)(s':Shared):Prop:=∃v H',Inv X pins σ H' s'/\RelV v u/\Q v H'
def TP(X:Cx)(pins:List (Addr×Obj))(σ:St)(Q:Bool->Hp->Prop)(b:Bool)(s':Shared):Prop:=∃H',Inv X pins σ H' s'/\Q b H'
def AP(X:Cx)(pins:List (Addr×Obj))(σ:St)(Q:List V->Hp->Prop)(us:List Value)(s':Shared):Prop:=∃vs H',Inv X pins σ H' s'/\Vals vs us/\Q vs H'
def SP(X:Cx)(pins:List (Addr×Obj))(D:Ends)(f:Flow)(s':Shared):Prop:=
 match f with
 |.next=>∃σ' H',Inv X pins σ' H' s'/\D.nx σ' H'
 |.brk=>∃σ' H',Inv X pins σ' H' s'/\D.bk σ' H'
 |.cont=>∃σ' H',Inv X pins σ' H' s'/\D.ct σ' H'
 |.ret u=>∃v σ' H',Inv X pins σ' H' s'/\RelV v u/\D.rt v H'
def PE(X:Cx)(e:Expr)(t:TE):Prop:=
 ∀(pins:List (Addr×Obj)) (s:Shared) (σ:St) (H:Hp) (Q:VK),Inv X pins σ H s->t σ H Q->wpAny (model X.prog X.w) X.A (eval e X.env) (EP X pins σ Q) X.xe s
def PT(X:Cx)(e:Expr)(t:TT):Prop:=
 ∀(pins:List (Addr×Obj)) (s:Shared) (σ:St) (H:Hp) (Q:Bool->Hp->Prop),Inv X pins σ H s->t σ H Q->wpAny (model X.prog X.w) X.A (isTrue e X.env (eval e X.env)) (TP X pins σ Q) X.xe s
def PW(X:Cx)(e:Expr)(t:TT):Prop:=
 ∀(whole:Sem Value) (pins:List (Addr×Obj)) (s:Shared) (σ:St) (H:Hp) (Q:Bool->Hp->Prop),Inv X pins σ H s->t σ H Q->wpAny (model X.prog X.w) X.A (isTrue e X.env whole) (TP X pins σ Q) X.xe s
def PA(X:Cx)(es:List Expr)(t:TA):Prop:=
 ∀(pos:Pos) (pins:List (Addr×Obj)) (s:Shared) (σ:St) (H:Hp) (Q:List V->Hp->Prop),Inv X pins σ H s->t σ H Q->wpAny (model X.prog X.w) X.A (spliced (backTo pos (starEach es X.env))) (AP X pins σ Q) X.xe s
def PS(X:Cx)(st:Stmt)(t:TS):Prop:=
 ∀(pins:List (Addr×Obj)) (s:Shared) (σ:St) (H:Hp) (D:Ends),Inv X pins σ H s->t D σ H->wpAny (model X.prog X.w) X.A (exec st X.env) (SP X pins D) X.xe s
def PSs(X:Cx)(st:List Stmt)(t:TS):Prop:=
 ∀(pins:List (Addr×Obj)) (s:Shared) (σ:St) (H:Hp) (D:Ends),Inv X pins σ H s->t D σ H->wpAny (model X.prog X.w) X.A (execs st X.env) (SP X pins D) X.xe s
theorem thn{α:Type}{t:Sem α}{Q Q':α->Shared->Prop}{M:Model}{A:Around}{E:Value->Shared->Prop}{s:Shared}(h:wpAny M A t Q E s)(hQ:∀a s,Q a s->Q' a s):wpAny M A t Q' E s:=wpAny_mono h hQ fun _ _ x=>x
end L2
namespace L2
open PySem PySem.Spec PyProof.Rows
section
variable {X : Cx}
theorem bin{a b:Expr}{ta tb:TE}(ha:PE X a ta)(hb:PE X b tb){pins:List (Addr×Obj)}{s:Shared}{σ:St}{H:Hp}{R:V->V->Hp->Prop}(I:Inv X pins σ H s)(h:ta σ H fun x H1=>tb σ H1 fun y H2=>R x y H2)
  {α:Type}{Q:α->Shared->Prop}{f:Value->Value->Sem α}
  (hf:∀v u s2 x y H2,Inv X pins σ H2 s2->RelV x v->RelV y u->R x y H2->wpAny (model X.prog X.w) X.A (f v u) Q X.xe s2):
  wpAny (model X.prog X.w) X.A (eval a X.env) (fun v s₁=>wpAny (model X.prog X.w) X.A (eval b X.env) (fun u s₂=>wpAny (model X.prog X.w) X.A (f v u) Q X.xe s₂) X.xe s₁) X.xe s:=by
 refine thn (ha pins s σ H _ I h) fun v s1 zz1=>?_
 obtain⟨x,H1,I1,r1,q1⟩:=zz1;refine thn (hb pins s1 σ H1 _ I1 q1) fun u s2 zz2=>?_
 obtain⟨y,H2,I2,r2,q2⟩:=zz2;exact hf v u s2 x y H2 I2 r1 r2 q2
def tVar(i:Nat):TE:=fun σ H Q=>∃v,σ[i]?=some (some v)/\Q v H
def tC(v:V):TE:=fun _ H Q=>Q v H
theorem KF{i:Nat}{x:Str}{pos:Pos}(hN:X.N[i]?=some x)(hv:Vis X.env.scope x)(hd:(x==("__debug__" : Str))=false:=by decide)(hcd:(x==("__classdict__" : Str))=false:=by decide):PE X (.Name x pos) (tVar i):=by
 intro pins s σ H Q I h;obtain⟨v,e,h⟩:=h;obtain⟨m,hn,hl⟩:=I.loc;obtain⟨u,r,l⟩:=hl i x v hN e hv;have fin:EP X pins σ Q u s:=⟨v,H,I,r,h⟩;rcases l with⟨hk,hm⟩ | ⟨hk,c,hc,hcell⟩
 ·exact wpAny_Name (wpAny_loadName_local I.ok.kind hk hn hm fin) hd
 ·rcases hk with hk | hk
  ·exact wpAny_Name (wpAny_loadName_cell I.ok.kind hk hc hcell fin) hd
  ·exact wpAny_Name (wpAny_loadName_free I.ok.kind hk hc hcell fin hcd) hd
theorem KG{i j pos}:PE X (.Constant (.int i) j pos) (tC (.int i)):=fun _ _ _ H _ I h=>wpAny_Constant_int ⟨.int i,H,I.tok _,⟨_,rfl⟩,h⟩
theorem Me{b j pos}:PE X (.Constant (.bool b) j pos) (tC (.bl b)):=fun _ _ _ H _ I h=>Constant_bool ⟨.bl b,H,I,rfl,h⟩
theorem KH{j pos}:PE X (.Constant .none j pos) (tC .non):=fun _ _ _ H _ I h=>Constant_none ⟨.non,H,I,rfl,h⟩
theorem KI{x j pos}:PE X (.Constant (.str x) j pos) (tC (.str x)):=fun _ _ _ H _ I h=>Calls.Constant_str ⟨.str x,H,I.tok _,⟨_,rfl⟩,h⟩
def Gl(X:Cx)(x:Str):Prop:=X.env.kindOf x=some .globalImplicit
theorem wQ{E:Value->Shared->Prop}{pins:List (Addr×Obj)}{s:Shared}{σ:St}{H:Hp}{x:Str}{u:Value}{pos:Pos}{Q:Value->Shared->Prop}(I:Inv X pins σ H s)(hg:Gl X x)(hm:X.mg x=some u)(h:Q u s)
  (hd:(x==("__debug__" : Str))=false:=by decide):wpAny (model X.prog X.w) X.A (eval (.Name x pos) X.env) Q E s:=
 Calls.Name_function_global I.ok.kind hg (Calls.loadGlobal_global (by rw[I.ok.glob];exact I.mod.glob.keeps I.bk) hm h) hd
theorem fL{E:Value->Shared->Prop}{pins:List (Addr×Obj)}{s:Shared}{σ:St}{H:Hp}{x:Str}{u:Value}{pos:Pos}{Q:Value->Shared->Prop}(I:Inv X pins σ H s)(hg:Gl X x)(hm:X.mg x=none)(hv:bootBuiltins x=some u)(h:Q u s)
  (hn:x ≠ "__name__":=by decide) (hd:(x==("__debug__" : Str))=false:=by decide):wpAny (model X.prog X.w) X.A (eval (.Name x pos) X.env) Q E s:=by
 obtain⟨mb,h1,h2⟩:=I.mod.blt;exact Calls.Name_function_global I.ok.kind hg (Calls.loadGlobal_builtin (by rw[I.ok.glob];exact I.mod.glob.keeps I.bk) hm (by rw[I.ok.blt];exact h1.keeps I.bk) ((h2 x hn).trans hv) h) hd
theorem IT{x:Str}{v:V}{u:Value}{pos:Pos}(hg:Gl X x)(hm:X.mg x=some u)(r:RelV v u)(hd:(x==("__debug__" : Str))=false:=by decide):PE X (.Name x pos) (tC v):=
 fun _ _ _ H _ I h=>wQ I hg hm ⟨v,H,I,r,h⟩ hd
theorem IU{x:Str}{v:V}{u:Value}{pos:Pos}(hg:Gl X x)(hm:X.mg x=none)(hv:bootBuiltins x=some u)(r:RelV v u)(hn:x ≠ "__name__":=by decide)(hd:(x==("__debug__" : Str))=false:=by decide):PE X (.Name x pos) (tC v):=
 fun _ _ _ H _ I h=>fL I hg hm hv ⟨v,H,I,r,h⟩ hn hd
variable {a b : Expr} {ta tb : TE} {pos : Pos}
variable {tA tB' : TT} {rest : List Expr}
def tAnd(t u:TT):TT:=fun σ H Q=>t σ H fun c H1=>if c=true then u σ H1 Q else Q false H1
def tOr(t u:TT):TT:=fun σ H Q=>t σ H fun c H1=>if c=true then Q true H1 else u σ H1 Q
def tNot(t:TT):TT:=fun σ H Q=>t σ H fun c H1=>Q (!c) H1
theorem IV(ha:PT X a tA):PW X (.BoolOp .And [a] pos) tA:=by
 intro wh pins s σ H Q I h;refine isTrue_and (thn (ha pins s σ H Q I h) fun c s1 e=>?_);cases c with
 |true=>exact isTrue_and_nil e
 |false=>exact e
theorem KJ(ha:PT X a tA):PW X (.BoolOp .Or [a] pos) tA:=by
 intro wh pins s σ H Q I h;refine isTrue_or (thn (ha pins s σ H Q I h) fun c s1 e=>?_);cases c with
 |false=>exact isTrue_or_nil e
 |true=>exact e
theorem KK(ha:PT X a tA)(hb:PW X (.BoolOp .And (b::rest) pos) tB'):PW X (.BoolOp .And (a::b::rest) pos) (tAnd tA tB'):=by
 intro wh pins s σ H Q I h;refine isTrue_and (thn (ha pins s σ H _ I h) fun c s1 zz7=>?_);obtain⟨H1,I1,q1⟩:=zz7;cases c with
 |true=>exact hb wh pins s1 σ H1 Q I1 q1
 |false=>exact⟨H1,I1,q1⟩
theorem Mf(ha:PT X a tA)(hb:PW X (.BoolOp .Or (b::rest) pos) tB'):PW X (.BoolOp .Or (a::b::rest) pos) (tOr tA tB'):=by
 intro wh pins s σ H Q I h;refine isTrue_or (thn (ha pins s σ H _ I h) fun c s1 zz8=>?_);obtain⟨H1,I1,q1⟩:=zz8;cases c with
 |true=>exact⟨H1,I1,q1⟩
 |false=>exact hb wh pins s1 σ H1 Q I1 q1
theorem KL(ha:PT X a tA):PT X (.UnaryOp .Not a pos) (tNot tA):=by
 intro pins s σ H Q I h;exact isTrue_not (ha pins s σ H (fun c H1=>Q (!c) H1) I h)
def Mg(ta tb:TE):TE:=fun σ H Q=>ta σ H fun x H1=>∃c,x=.bl c/\if c=true then tb σ H1 Q else Q (.bl false) H1
def tOrV(ta tb:TE):TE:=fun σ H Q=>ta σ H fun x H1=>∃c,x=.bl c/\if c=true then Q (.bl true) H1 else tb σ H1 Q
def Mh(ta:TE):TE:=fun σ H Q=>ta σ H fun x H1=>∃c,x=.bl c/\Q (.bl (!c)) H1
theorem KM{op}{t:TE}(h:PE X a t):PE X (.BoolOp op [a] pos) t:=fun pins s σ H Q I hw=>BoolOp_one (h pins s σ H Q I hw)
theorem KN(ha:PE X a ta)(hb:PE X (.BoolOp .And (b::rest) pos) tb):PE X (.BoolOp .And (a::b::rest) pos) (Mg ta tb):=by
 intro pins s σ H Q I h;refine BoolOp_and (thn (ha pins s σ H _ I h) fun v s1 zz9=>?_);obtain⟨x,H1,I1,r1,q1⟩:=zz9;obtain⟨c,rfl,q1⟩:=q1;cases r1;refine wpAny_truthy_bool ?_;cases c with
 |true=>exact hb pins s1 σ H1 Q I1 q1
 |false=>exact⟨.bl false,H1,I1,rfl,q1⟩
theorem Mi(ha:PE X a ta)(hb:PE X (.BoolOp .Or (b::rest) pos) tb):PE X (.BoolOp .Or (a::b::rest) pos) (tOrV ta tb):=by
 intro pins s σ H Q I h;refine BoolOp_or (thn (ha pins s σ H _ I h) fun v s1 zz10=>?_);obtain⟨x,H1,I1,r1,q1⟩:=zz10;obtain⟨c,rfl,q1⟩:=q1;cases r1;refine wpAny_truthy_bool ?_;cases c with
 |false=>exact hb pins s1 σ H1 Q I1 q1
 |true=>exact⟨.bl true,H1,I1,rfl,q1⟩
theorem KO(ha:PE X a ta):PE X (.UnaryOp .Not a pos) (Mh ta):=by
 intro pins s σ H Q I h;refine UnaryOp_ (thn (ha pins s σ H _ I h) fun v s1 zz11=>?_);obtain⟨x,H1,I1,r1,q1⟩:=zz11;obtain⟨c,rfl,q1⟩:=q1;cases r1;exact not_of (wpAny_truthy_bool ⟨.bl (!c),H1,I1,rfl,q1⟩)
def tIf(t:TT)(ta tb:TE):TE:=fun σ H Q=>t σ H fun c H1=>if c=true then ta σ H1 Q else tb σ H1 Q
theorem GW{c:Expr}(hc:PT X c tA)(ha:PE X a ta)(hb:PE X b tb):PE X (.IfExp c a b pos) (tIf tA ta tb):=by
 intro pins s σ H Q I h;refine wpAny_IfExp (thn (hc pins s σ H _ I h) fun d s1 zz12=>?_);obtain⟨H1,I1,q1⟩:=zz12;cases d with
 |true=>exact ha pins s1 σ H1 Q I1 q1
 |false=>exact hb pins s1 σ H1 Q I1 q1
end
end L2
namespace L2
open PySem PySem.Spec PyProof.Rows
def SqL(K:PySem.W.Frag)(H:Hp)(a:Addr)(xs:List V):Prop:=
 Rd H a (.lst xs) \/
  ∃(o:Obj) (its:Array Value) (n:Nat),K.lookup a=some o/\o.cls=.type "list"/\o.dict=none/\o.data=.seq its n/\its.size<=sizeLine/\Vals xs its.toList
def SqT(K:PySem.W.Frag)(H:Hp)(a:Addr)(xs:List V):Prop:=
 Rd H a (.tup xs) \/
  ∃(o:Obj) (its:Array Value) (n:Nat),K.lookup a=some o/\o.cls=.type "tuple"/\o.data=.seq its n/\its.size<=sizeLine/\Vals xs its.toList
def absV:Value->Option V
 |.none=>some .non
 |.bool b=>some (.bl b)
 |.int i _=>some (.int i)
 |.str x _=>some (.str x)
 |.bytes b _=>some (.byt b)
 |.float b _=>some (.flt b)
 |.ref a=>some (.ref a)
 |.type n=>some (.ty n)
 |_=>none
theorem RelV.abs{x:V}{u:Value}(r:RelV x u):absV u=some x:=by
 cases x with
 |non=>cases r;rfl
 |bl _=>cases r;rfl
 |int _=>obtain⟨t,rfl⟩:=r;rfl
 |str _=>obtain⟨t,rfl⟩:=r;rfl
 |byt _=>obtain⟨t,rfl⟩:=r;rfl
 |flt _=>obtain⟨t,rfl⟩:=r;rfl
 |ref _=>cases r;rfl
 |ty _=>cases r;rfl
theorem RelV.inj{x y:V}{u:Value}(r:RelV x u)(q:RelV y u):x=y:=Option.some.inj (r.abs.symm.trans q.abs)
theorem Vals.inj{xs ys:List V}{us:List Value}(h:Vals xs us)(h':Vals ys us):xs=ys:=by
 induction h generalizing ys with
 |nil=>cases h';rfl
 |cons r t ih=>cases h' with
  |cons r' t'=>rw[r.inj r',ih t']
section
variable {X : Cx} {pins : List (Addr × Obj)} {σ : St} {H : Hp} {s : Shared} {a : Addr} {xs ys : List V}
theorem SqL.of{K:PySem.W.Frag}(h:H a=some (.lst xs)):SqL K H a xs:=.inl (.inl h)
theorem SqT.of{K:PySem.W.Frag}(h:H a=some (.tup xs)):SqT K H a xs:=.inl (.inl h)
theorem Inv.list(I:Inv X pins σ H s)(h:SqL X.K H a xs):∃its:List Value,Vals xs its/\PlainL s.heap a its.toArray/\xs.length<=sizeLine:=by
 rcases h with h | ⟨o,its,n,hk,hc,hd,hs,hz,r⟩
 ·obtain⟨z,its,n,r,e⟩:=h.ok I.hok
  exact⟨its,r,⟨_,n,e,rfl,rfl,rfl⟩,z⟩
 ·refine⟨its.toList,r,⟨o,n,I.kIn a o hk,hc,hd,by simpa using hs⟩,?_⟩
  have e:=r.length;simp only[Array.length_toList] at e;omega
theorem Inv.tuple(I:Inv X pins σ H s)(h:SqT X.K H a xs):∃its:List Value,Vals xs its/\IsTup s.heap a its.toArray/\xs.length<=sizeLine:=by
 rcases h with h | ⟨o,its,n,hk,hc,hs,hz,r⟩
 ·obtain⟨z,its,r,p⟩:=h.ok I.hok
  exact⟨its,r,p,z⟩
 ·refine⟨its.toList,r,⟨o,I.kIn a o hk,hc,n,by simpa using hs⟩,?_⟩
  have e:=r.length;simp only[Array.length_toList] at e;omega
theorem Inv.list_inj(I:Inv X pins σ H s)(h:SqL X.K H a xs)(h':SqL X.K H a ys):xs=ys:=by
 obtain⟨its,r,⟨o,n,e,_,_,d⟩,_⟩:=I.list h;obtain⟨its',r',⟨o',n',e',_,_,d'⟩,_⟩:=I.list h';rw[e] at e';cases e';rw[d] at d';injection d' with d1 _
 have:its=its':=by simpa using congrArg Array.toList d1
 subst this;exact r.inj r'
theorem Inv.tuple_inj(I:Inv X pins σ H s)(h:SqT X.K H a xs)(h':SqT X.K H a ys):xs=ys:=by
 obtain⟨its,r,⟨o,e,_,n,d⟩,_⟩:=I.tuple h;obtain⟨its',r',⟨o',e',_,n',d'⟩,_⟩:=I.tuple h';rw[e] at e';cases e';rw[d] at d';injection d' with d1 _
 have:its=its':=by simpa using congrArg Array.toList d1
 subst this;exact r.inj r'
end
abbrev Cx.wish(X:Cx)(E:Value->Shared->Prop):Cx:={ X with xe:=E }
abbrev Cx.nox(X:Cx):Cx:=X.wish fun _ _=>False
theorem Cx.Ok.wish{X:Cx}(ok:X.Ok)(E:Value->Shared->Prop):(X.wish E).Ok:=
 ⟨ok.mod,ok.kind,ok.glob,ok.blt,ok.above,ok.inj,ok.has,ok.cab,ok.hd,ok.frames,ok.stk,ok.exf,ok.bs,ok.bsz,ok.noex,ok.exfs,ok.funs,ok.frf⟩
theorem Cx.Ok.unwish{X:Cx}{E:Value->Shared->Prop}(ok:(X.wish E).Ok):X.Ok:=
 ⟨ok.mod,ok.kind,ok.glob,ok.blt,ok.above,ok.inj,ok.has,ok.cab,ok.hd,ok.frames,ok.stk,ok.exf,ok.bs,ok.bsz,ok.noex,ok.exfs,ok.funs,ok.frf⟩
section
variable {X : Cx} {pins : List (Addr × Obj)} {σ : St} {H : Hp} {s : Shared} {E : Value -> Shared -> Prop}
theorem Inv.wish(I:Inv X pins σ H s)(E:Value->Shared->Prop):Inv (X.wish E) pins σ H s:=⟨I.ok.wish E,I.os,I.bare,I.base,I.loc,I.cell,I.free,I.freeC,I.pin,I.hok,I.len⟩
theorem Inv.unwish(I:Inv (X.wish E) pins σ H s):Inv X pins σ H s:=⟨I.ok.unwish,I.os,I.bare,I.base,I.loc,I.cell,I.free,I.freeC,I.pin,I.hok,I.len⟩
theorem SP.unwish{D:Ends}{f:Flow}{s':Shared}(h:SP (X.wish E) pins D f s'):SP X pins D f s':=by
 cases f with
 |next=>obtain⟨σ',H',I,q⟩:=h;exact⟨σ',H',I.unwish,q⟩
 |brk=>obtain⟨σ',H',I,q⟩:=h;exact⟨σ',H',I.unwish,q⟩
 |cont=>obtain⟨σ',H',I,q⟩:=h;exact⟨σ',H',I.unwish,q⟩
 |ret u=>obtain⟨v,σ',H',I,r,q⟩:=h;exact⟨v,σ',H',I.unwish,r,q⟩
theorem PSs.nox{st:List Stmt}{t:TS}(h:PSs X.nox st t):PSs X st t:=fun pins s σ H D I hw=>
 wpAny_mono (h pins s σ H D (I.wish _) hw) (fun _ _ q=>q.unwish) fun _ _ z=>False.elim z
end
section
variable {X : Cx} {st : Stmt} {rest : List Stmt} {t u : TS} {e : Expr} {te : TE} {pos : Pos}
def Iy:TS:=fun D σ H=>D.nx σ H
def tSeq(t u:TS):TS:=fun D σ H=>t { D with nx:=u D } σ H
theorem IW:PSs X [] Iy:=fun _ _ σ H _ I h=>wpAny_execs_nil ⟨σ,H,I,h⟩
theorem GX(h1:PS X st t)(h2:PSs X rest u):PSs X (st::rest) (tSeq t u):=by
 intro pins s σ H D I h;refine wpAny_execs_cons (thn (h1 pins s σ H { D with nx:=u D } I h) fun f s1 q=>?_);cases f with
 |next=>
  obtain⟨σ',H',I',q⟩:=q;exact h2 pins s1 σ' H' D I' q
 |ret v=>exact q
 |brk=>exact q
 |cont=>exact q
theorem IX:PS X (.Pass pos) Iy:=fun _ _ σ H _ I h=>wpAny_Pass ⟨σ,H,I,h⟩
theorem Inv.quiet{pins:List (Addr×Obj)}{σ:St}{H:Hp}{s:Shared}(I:Inv X pins σ H s):interactive X.env=false:=by simp[interactive,I.ok.kind]
def Mj(te:TE):TS:=fun D σ H=>te σ H fun _ H1=>D.nx σ H1
theorem IY(he:PE X e te)(hs:swapsWith e none pos.line X.env=pure false:=by rfl):PS X (.Expr e pos) (Mj te):=by
 intro pins s σ H D I h;refine wpAny_Expr_any (thn (he pins s σ H _ I h) fun v s1 zz13=>?_) I.quiet hs;obtain⟨x,H1,I1,r1,q1⟩:=zz13;exact⟨σ,H1,I1,q1⟩
def tRet(te:TE):TS:=fun D σ H=>te σ H D.rt
theorem KP(he:PE X e te):PS X (.Return (some e) pos) (tRet te):=by
 intro pins s σ H D I h;refine wpAny_Return_some (thn (he pins s σ H _ I h) fun v s1 zz14=>?_);obtain⟨x,H1,I1,r1,q1⟩:=zz14;exact⟨x,σ,H1,I1,r1,q1⟩
def tIfS(c:TT)(t u:TS):TS:=fun D σ H=>c σ H fun b H1=>if b=true then t D σ H1 else u D σ H1
theorem Ml{c:Expr}{a b:List Stmt}{tc:TT}(hc:PT X c tc)(ha:PSs X a t)(hb:PSs X b u):PS X (.If c a b pos) (tIfS tc t u):=by
 intro pins s σ H D I h;refine wpAny_If (thn (hc pins s σ H _ I h) fun d s1 zz15=>?_);obtain⟨H1,I1,q1⟩:=zz15;cases d with
 |true=>exact ha pins s1 σ H1 D I1 q1
 |false=>exact hb pins s1 σ H1 D I1 q1
end
abbrev TG:=V->St->Hp->(St->Hp->Prop)->Prop
abbrev TGs:=List V->St->Hp->(St->Hp->Prop)->Prop
def PG(X:Cx)(target:Expr)(t:TG):Prop:=
 ∀(pins:List (Addr×Obj)) (s:Shared) (σ:St) (H:Hp) (v:V) (u:Value) (Q:St->Hp->Prop),Inv X pins σ H s->RelV v u->t v σ H Q ->
  wpAny (model X.prog X.w) X.A (assign target X.env u) (fun _ s'=>∃σ' H',Inv X pins σ' H' s'/\Q σ' H') X.xe s
def PGs(X:Cx)(ts:List Expr)(t:TGs):Prop:=
 ∀(pins:List (Addr×Obj)) (s:Shared) (σ:St) (H:Hp) (vs:List V) (us:List Value) (Q:St->Hp->Prop),Inv X pins σ H s->Vals vs us->t vs σ H Q ->
  wpAny (model X.prog X.w) X.A (assignInOrder ((assignEach ts X.env).map (·.2)) us) (fun _ s'=>∃σ' H',Inv X pins σ' H' s'/\Q σ' H') X.xe s
abbrev TSet:=V->V->V->Hp->(Hp->Prop)->Prop
def PSet(X:Cx)(t:TSet):Prop:=
 ∀(pins:List (Addr×Obj)) (s:Shared) (σ:St) (H:Hp) (o i v:V) (ov iv u:Value) (Q:Hp->Prop),Inv X pins σ H s->RelV o ov->RelV i iv->RelV v u->t o i v H Q ->
  wpAny (model X.prog X.w) X.A (setItem ov iv u) (fun _ s'=>∃H',Inv X pins σ H' s'/\Q H') X.xe s
section
variable {X : Cx} {pos : Pos}
def zn(i:Nat):TG:=fun v σ H Q=>Q (σ.set i (some v)) H
theorem Dn{i:Nat}{x:Str}(hN:X.N.Nodup)(hi:X.N[i]?=some x)(hx:Loc X.env.scope x)(hf:X.fn x=true\/X.env.scope.names.lookup x=some .local:=by first | exact .inl rfl | exact .inr rfl | assumption):PG X (.Name x pos) (zn i):=by
 intro pins s σ H v u Q I r h;exact wpAny_assign_Name (zE I hN hi hx r (fun s' I'=>⟨_,H,I',h⟩) hf)
def gNil:TGs:=fun vs σ H Q=>vs=[]/\Q σ H
def Iz(t:TG)(u:TGs):TGs:=fun vs σ H Q=>∃v r,vs=v::r/\t v σ H fun σ' H'=>u r σ' H' Q
theorem IZ:PGs X [] gNil:=by
 intro pins s σ H vs us Q I r h;obtain⟨e,h⟩:=h;subst e;cases r;exact assignInOrder_nil ⟨σ,H,I,h⟩
theorem GY{e:Expr}{es:List Expr}{t:TG}{u:TGs}(h1:PG X e t)(h2:PGs X es u)
  (hs:(assignEach (e::es) X.env).map (·.2)=assign e X.env::(assignEach es X.env).map (·.2):=by rfl):PGs X (e::es) (Iz t u):=by
 intro pins s σ H vs us Q I r h;obtain⟨v,vr,e1,h⟩:=h;subst e1;cases r with
 |cons r rr=>
  rw[hs];refine assignInOrder_cons (thn (h1 pins s σ H _ _ _ I r h) fun _ s1 zz16=>?_);obtain⟨σ1,H1,I1,q1⟩:=zz16;exact h2 pins s1 σ1 H1 _ _ Q I1 rr q1
def gTup(K:PySem.W.Frag)(n:Nat)(t:TGs):TG:=fun v σ H Q=>∃a xs,v=.ref a/\SqT K H a xs/\xs.length=n/\t xs σ H Q
theorem KQ{es:List Expr}{k:Nat}{t:TGs}{n:Nat}(hc:X.calm=true)(h:PGs X es t)
  (hn:(assignEach es X.env).length=n:=by rfl) (hst:(assignEach es X.env).findIdx? (·.1)=none:=by rfl):PG X (.Tuple es k pos) (gTup X.K n t):=by
 intro pins s σ H v u Q I r hw;obtain⟨a,xs,e1,hq,hl,hw⟩:=hw;subst e1;cases r;obtain⟨its,rv,ht,hz⟩:=I.tuple hq;refine assign_Tuple_tuple (I.ok.hd hc) ht (by simp[hn,←hl,rv.length]) hst fun h' hx=>?_
 have I1:Inv X pins σ H { s with heap:=h' }:=I.kept (t':=s.toks) fun b o e=>hx b o (Nat.ne_of_lt (Heap.lt_size e)) e
 exact h pins _ σ H xs _ Q I1 (by simpa using rv) hw
def gSub(to ti:TE)(t:TSet):TG:=fun v σ H Q=>to σ H fun o H1=>ti σ H1 fun i H2=>t o i v H2 fun H3=>Q σ H3
theorem KR {o i:Expr} {to ti:TE} {t:TSet} (ho:PE X o to) (hi:PE X i ti) (hs:PSet X t)
    (ha:∀ v,assign (.Subscript o i pos) X.env v = (do
      let ov ← holding [v] (eval o X.env)
      let iv ← holding [v,ov] (eval i X.env)
      standAt pos
      holding [v,ov,iv] (setItem ov iv v)
      release [v,ov,iv] []):=by intro _; rfl):PG X (.Subscript o i pos) (gSub to ti t):=by
  intro pins s σ H v u Q I r h
  rw [ha]
  refine wpAny_bind (wpAny_holding (thn (ho pins s σ H _ I h) fun ov s1 zz17=>?_))
  obtain ⟨x,H1,I1,r1,q1⟩:=zz17
  refine wpAny_bind (wpAny_holding (thn (hi pins s1 σ H1 _ I1 q1) fun iv s2 zz18=>?_))
  obtain ⟨y,H2,I2,r2,q2⟩:=zz18
  refine wpAny_bind (wpAny_standAt (wpAny_bind (wpAny_holding (thn (hs pins s2 σ H2 x y v ov iv u _ I2 r1 r2 r q2) fun _ s3 zz19=>?_))))
  obtain ⟨H3,I3,q3⟩:=zz19
  exact wpAny_release ⟨σ,H3,I3,q3⟩
def tAsg(te:TE)(g:TG):TS:=fun D σ H=>te σ H fun x H1=>g x σ H1 D.nx
theorem Fq{tg e:Expr}{te:TE}{g:TG}(he:PE X e te)(hg:PG X tg g)(hs:swapsWithSole [tg] e pos.line X.env=pure false:=by rfl)(hw:swappedStores [tg] e X.env=pure none:=by rfl)
  (h1:(assignEach [tg] X.env).map (·.2)=[assign tg X.env]:=by rfl):PS X (.Assign [tg] e pos) (tAsg te g):=by
 intro pins s σ H D I h;refine wpAny_Assign_stores (thn (he pins s σ H _ I h) fun v s1 zz20=>?_) hs hw;obtain⟨x,H1,I1,r1,q1⟩:=zz20;rw[h1];exact thn (hg pins s1 σ H1 x v _ I1 r1 q1) fun _ s2 q=>q
theorem KS{i:Nat}{x:Str}{e:Expr}{te:TE}{pos':Pos}(hN:X.N.Nodup)(hi:X.N[i]?=some x)(hx:Loc X.env.scope x)(he:PE X e te)(hs:swapsWith e (some (.Name x pos')) pos.line X.env=pure false:=by rfl)(hf:X.fn x=true\/X.env.scope.names.lookup x=some .local:=by first | exact .inl rfl | exact .inr rfl | assumption):
  PS X (.Assign [.Name x pos'] e pos) (tAsg te (zn i)):=by
 intro pins s σ H D I h;refine wpAny_Assign_Name (thn (he pins s σ H _ I h) fun v s1 zz21=>?_) hs;obtain⟨y,H1,I1,r1,q1⟩:=zz21;exact zE I1 hN hi hx r1 (fun s2 I2=>⟨_,H1,I2,q1⟩) hf
end
section
variable {X : Cx} {pos : Pos}
def KU(c:TT)(tb:TS):TS:=fun D σ H=>∃W:Nat->St->Hp->Prop,(∃m,W m σ H)/\∀m σ H,W m σ H ->
 c σ H fun b H1=>if b=true then ∃N:St->Hp->Prop,(∀σ' H',N σ' H'->∃m',m'<m/\W m' σ' H')/\tb { D with nx:=N,ct:=N,bk:=D.nx } σ H1 else D.nx σ H1
theorem GZ{c:Expr}{body:List Stmt}{tc:TT}{tb:TS}(hp:PassesOwn (model X.prog X.w) X.A X.env X.xe)(hc:PT X c tc)(hb:PSs X body tb):PS X (.While c body [] pos) (KU tc tb):=by
 intro pins s σ H D I h;obtain⟨W,⟨m0,w0⟩,turn⟩:=h;refine wpAny_While (codeAny_whileLoop (fun n s'=>∃σ' H',Inv X pins σ' H' s'/\W n σ' H') ?_ m0 ⟨σ,H,I,w0⟩);rintro n s1 ⟨σ1,H1,I1,w1⟩;refine wpAny_passesOwn hp (thn (hc pins s1 σ1 H1 _ I1 (turn n σ1 H1 w1)) fun b s2 zz31=>?_);obtain⟨H2,I2,q2⟩:=zz31;cases b with
 |true=>
  obtain⟨N,hN,q2⟩:=q2;rw[if_pos rfl];refine wpAny_passesOwn hp (thn (hb pins s2 σ1 H2 _ I2 q2) fun f s3 q3=>?_);cases f with
  |next=>
   obtain⟨σ3,H3,I3,n3⟩:=q3;obtain⟨m',hm,w3⟩:=hN σ3 H3 n3;exact⟨m',hm,σ3,H3,I3,w3⟩
  |cont=>
   obtain⟨σ3,H3,I3,n3⟩:=q3;obtain⟨m',hm,w3⟩:=hN σ3 H3 n3;exact⟨m',hm,σ3,H3,I3,w3⟩
  |brk=>exact q3
  |ret v=>exact q3
 |false=>
  rw[if_neg Bool.false_ne_true];exact wpAny_execs_nil ⟨σ1,H2,I2,q2⟩
end
structure It where
 go:Nat->Hp->Prop
 yld:Nat->Hp->V->Hp->Prop
 stop:Nat->Hp->Prop
def FpOk(X:Cx)(pins:List (Addr×Obj))(H:Hp)(b:Addr):Prop:=
 H b=none/\b≠X.env.locals/\b∉X.fs/\(b∈X.ex\/X.s₀.heap.objs.size<=b)/\(∀x c,X.env.cells.lookup x=some c->c≠b)/\∀p∈X.pn++pins,p.1≠b
theorem Inv.fpOk{X:Cx}{pins:List (Addr×Obj)}{σ:St}{H H':Hp}{s:Shared}{b:Addr}(I:Inv X pins σ H s)(hb:s.heap.objs.size<=b)(hn:H' b=none):FpOk X pins H' b:=by
 refine⟨hn,Nat.ne_of_gt (Nat.lt_of_lt_of_le I.lt hb),I.nofs hb,.inr (Nat.le_trans I.sz hb),fun x c e z=>?_,fun p hp z=>?_⟩
 ·obtain⟨v,q⟩:=I.cell x c e
  exact absurd (Nat.lt_of_lt_of_le q.lt (by rw[z];exact hb)) (Nat.lt_irrefl _)
 ·exact absurd (Nat.lt_of_lt_of_le (Heap.lt_size (I.pin p hp).1) (by rw[z];exact hb)) (Nat.lt_irrefl _)
structure Turn (P:Program) (w:World) (K:PySem.W.Frag) (tg:Expr) (J:It) (fp:List Addr) (it:Addr) (tn:Nat->Heap->Prop):Prop where
 mem:it∈fp
 obj:∀i h,tn i h->∀b∈fp,∃o,h.get? b=some o/\∀v,o.data≠.cell v
 keep:∀i h h',tn i h->(∀b∈fp,∀o,h.get? b=some o->h'.get? b=some o)->tn i h'
 item:∀(X:Cx),X.prog=P->X.w=w->X.K=K->X.calm=true->∀(i:Nat) (pins:List (Addr×Obj)) (s:Shared) (σ:St) (H:Hp) (E:Value->Shared->Prop),Inv X pins σ H s->(∀b∈fp,FpOk X pins H b)->tn i s.heap->J.go i H ->
  wpAny (model P w) X.A (pyNext (.ref it)) (fun r s1=>∃u,r=some u /\
   wpAny (model P w) X.A (letOwnedTupleGo tg (.ref it) u) (fun _ s2=>∃x H',Inv X pins σ H' s2/\RelV x u/\J.yld i H x H'/\tn (i+1) s2.heap/\∀b∈fp,H' b=none) E s1) E s
 done:∀(X:Cx),X.prog=P->X.w=w->X.K=K->X.calm=true->∀(i:Nat) (pins:List (Addr×Obj)) (s:Shared) (σ:St) (H:Hp) (E:Value->Shared->Prop),Inv X pins σ H s->(∀b∈fp,FpOk X pins H b)->tn i s.heap->J.stop i H ->
  wpAny (model P w) X.A (pyNext (.ref it)) (fun r s1=>r=none/\Inv X pins σ H s1) E s
 self:∀(A:Around) (i:Nat) (s:Shared) (Q:Value->Shared->Prop) (E:Value->Shared->Prop),tn i s.heap->Q (.ref it) s->wpAny (model P w) A (pyIter (.ref it)) Q E s
abbrev TI:=St->Hp->(It->Hp->Prop)->Prop
def PIE(X:Cx)(pins:List (Addr×Obj))(σ:St)(tg:Expr)(R:It->Hp->Prop)(itv:Value)(s2:Shared):Prop:=
 ∃(it:Addr) (fp:List Addr) (tn:Nat->Heap->Prop) (J:It) (H':Hp),itv=.ref it/\Inv X pins σ H' s2/\Turn X.prog X.w X.K tg J fp it tn/\tn 0 s2.heap/\(∀b∈fp,FpOk X pins H' b)/\R J H'
def PI(X:Cx)(tg iter:Expr)(wi:TI):Prop:=
 ∀(pins:List (Addr×Obj)) (s:Shared) (σ:St) (H:Hp) (R:It->Hp->Prop),Inv X pins σ H s->wi σ H R ->
  wpAny (model X.prog X.w) X.A (eval iter X.env) (fun v s1=>wpAny (model X.prog X.w) X.A (pyIter v) (PIE X pins σ tg R) X.xe s1) X.xe s
theorem rb {M:Model} {A:Around} {E:Value->Shared->Prop} {s:Shared} {tg:Expr} {it:Addr} {u:Value} {o:Obj} {n:String} {vs:Array Value} {Q:Unit->Shared->Prop} (ho:s.heap.get? it = some o) (hc:o.cls = .type n) (hd:o.data = .fields vs)
    (hn:["enumerate", "zip", "dict_itemiterator", "dict_reverseitemiterator", "odict_iterator", "itertools.zip_longest", "itertools.pairwise"].contains n = false) (hQ:Q () s):wpAny M A (letOwnedTupleGo tg (.ref it) u) Q E s:=by
  unfold letOwnedTupleGo
  cases tg <;> first
    | exact wpAny_pure hQ
    | (cases u <;> first
        | exact wpAny_pure hQ
        | (refine wpAny_bind (wpAny_load ho ?_)
           rw [hc,hd]
           show wpAny M A (if (["enumerate", "zip", "dict_itemiterator", "dict_reverseitemiterator", "odict_iterator", "itertools.zip_longest", "itertools.pairwise"].contains n && vs[0]? == some (rawInt _)) = true then _ else _) Q E s
           rw [if_neg (by intro h; rw [hn,Bool.false_and] at h; cases h)]
           exact wpAny_pure hQ))
def Itl(K:PySem.W.Frag)(a:Addr):It:=
 ⟨fun i H=>∃xs x,SqL K H a xs/\xs[i]?=some x,fun i H x H'=>H'=H/\∀xs,SqL K H a xs->xs[i]?=some x,fun i H=>∃xs,SqL K H a xs/\xs.length<=i⟩
def Itt(K:PySem.W.Frag)(a:Addr):It:=
 ⟨fun i H=>∃xs x,SqT K H a xs/\xs[i]?=some x,fun i H x H'=>H'=H/\∀xs,SqT K H a xs->xs[i]?=some x,fun i H=>∃xs,SqT K H a xs/\xs.length<=i⟩
def Itr(lo:Int)(n:Nat):It:=⟨fun i _=>i<n,fun i H x H'=>H'=H/\x=.int (lo+i),fun i _=>n<=i⟩
theorem Fr{P:Program}{w:World}{K:PySem.W.Frag}{tg:Expr}(a it:Addr):Turn P w K tg (Itl K a) [it] it (fun i h=>h.IsListIter it a i) where
 mem:=by simp
 obj:=fun i h st b hb=>by
  have e:b=it:=by simpa using hb
  subst e;obtain⟨o,e,c,d⟩:=st;exact⟨o,e,fun v z=>by rw[d] at z;cases z⟩
 keep:=fun i h h' st k=>st.at fun o e=>k it (by simp) o e
 item:=by
  intro X hP hw hK hc i pins s σ H E I hf st hg;subst hP hw hK;obtain⟨xs,x,hq,hx⟩:=hg;obtain⟨its,rv,p,hz⟩:=I.list hq;obtain⟨u,hu,ru⟩:=rv.get hx;obtain⟨f0,f1,f2,f3,f4,f5⟩:=hf it (by simp);refine wpAny_pyNext_list_item st p.isList (x:=u) (by simpa using hu) fun h' st' sb=>?_
  have I1:Inv X pins σ H { s with heap:=h' }:=I.turned (t':=s.toks) (fun b o hb e=>(sb.2 b hb).trans e) f0 f1 f3 f4 f5;obtain⟨o,e,c,d⟩:=id st';exact⟨u,rfl,rb (s:={ s with heap:=h' }) e c d (by decide) ⟨x,H,I1,ru,⟨rfl,fun ys hy=>by rw[I.list_inj hy hq];exact hx⟩,st',fun b hb=>(hf b hb).1⟩⟩
 done:=by
  intro X hP hw hK hc i pins s σ H E I hf st hg;subst hP hw hK;obtain⟨xs,hq,hx⟩:=hg;obtain⟨its,rv,p,hz⟩:=I.list hq;obtain⟨f0,f1,f2,f3,f4,f5⟩:=hf it (by simp);have hl:=rv.length;exact wpAny_pyNext_list_end (I.ok.hd hc) st p.isList (by simp;omega) fun h' eb=>⟨rfl,I.turned (t':=s.toks) (fun b o hb e=>eb b o hb e) f0 f1 f3 f4 f5⟩
 self:=fun _ _ _ _ _ st h=>wpAny_pyIter_listiter st h
theorem D1{P:Program}{w:World}{K:PySem.W.Frag}{tg:Expr}(a it:Addr):Turn P w K tg (Itt K a) [it] it (fun i h=>h.IsTupleIter it a i) where
 mem:=by simp
 obj:=fun i h st b hb=>by
  have e:b=it:=by simpa using hb
  subst e;obtain⟨o,e,c,d⟩:=st;exact⟨o,e,fun v z=>by rw[d] at z;cases z⟩
 keep:=fun i h h' st k=>st.at fun o e=>k it (by simp) o e
 item:=by
  intro X hP hw hK hc i pins s σ H E I hf st hg;subst hP hw hK;obtain⟨xs,x,hq,hx⟩:=hg;obtain⟨its,rv,p,hz⟩:=I.tuple hq;obtain⟨u,hu,ru⟩:=rv.get hx;obtain⟨f0,f1,f2,f3,f4,f5⟩:=hf it (by simp);refine wpAny_pyNext_tuple_item st (show s.heap.IsTuple a its.toArray from p) (x:=u) (by simpa using hu) fun h' st' sb=>?_
  have I1:Inv X pins σ H { s with heap:=h' }:=I.turned (t':=s.toks) (fun b o hb e=>(sb.2 b hb).trans e) f0 f1 f3 f4 f5;obtain⟨o,e,c,d⟩:=id st';exact⟨u,rfl,rb (s:={ s with heap:=h' }) e c d (by decide) ⟨x,H,I1,ru,⟨rfl,fun ys hy=>by rw[I.tuple_inj hy hq];exact hx⟩,st',fun b hb=>(hf b hb).1⟩⟩
 done:=by
  intro X hP hw hK hc i pins s σ H E I hf st hg;subst hP hw hK;obtain⟨xs,hq,hx⟩:=hg;obtain⟨its,rv,p,hz⟩:=I.tuple hq;obtain⟨f0,f1,f2,f3,f4,f5⟩:=hf it (by simp);have hl:=rv.length;exact wpAny_pyNext_tuple_end (I.ok.hd hc) st (show s.heap.IsTuple a its.toArray from p) (by simp;omega) fun h' eb=>⟨rfl,I.turned (t':=s.toks) (fun b o hb e=>eb b o hb e) f0 f1 f3 f4 f5⟩
 self:=fun _ _ _ _ _ st h=>wpAny_pyIter_tupleiter st h
theorem D2{P:Program}{w:World}{K:PySem.W.Frag}{tg:Expr}(it:Addr)(lo:Int)(n:Nat):Turn P w K tg (Itr lo n) [it] it (fun i h=>IsRangeIter h it (lo+(i:Nat)*1) ((n:Int)-(i:Nat)) 1) where
 mem:=by simp
 obj:=fun i h st b hb=>by
  have e:b=it:=by simpa using hb
  subst e;exact⟨_,st,fun v z=>by
   have z':Data.fields _=Data.cell v:=z;cases z'⟩
 keep:=fun i h h' st k=>k it (by simp) _ st
 item:=by
  intro X hP hw hK hc i pins s σ H E I hf st hg;subst hP hw hK;obtain⟨f0,f1,f2,f3,f4,f5⟩:=hf it (by simp);have W:=Walks.range (prog:=X.prog) (w:=X.w) (I.ok.hd hc) it lo 1 n;refine W.item i s _ _ hg st fun v h' tk hv st' kk=>?_
  obtain⟨t,rfl⟩:=hv;have I1:Inv X pins σ H { s with heap:=h',toks:=tk }:=I.turned (fun b o hb e=>kk b o (by simpa using hb) e) f0 f1 f3 f4 f5;refine⟨_,rfl,rb (s:={ s with heap:=h',toks:=tk }) (n:="range_iterator") st' rfl rfl (by decide) ⟨.int (lo+i),H,I1,⟨t,?_⟩,⟨rfl,rfl⟩,st',fun b hb=>(hf b hb).1⟩⟩;rw[Int.mul_one]
 done:=by
  intro X hP hw hK hc i pins s σ H E I hf st hg;subst hP hw hK;obtain⟨f0,f1,f2,f3,f4,f5⟩:=hf it (by simp);exact wpAny_pyNext_range_end (I.ok.hd hc) st (by have:n<=i:=hg;omega) fun h' eb=>⟨rfl,I.turned (t':=s.toks) (fun b o hb e=>eb b o hb e) f0 f1 f3 f4 f5⟩
 self:=fun _ _ _ _ _ st h=>wpAny_pyIter_rangeiter st h
end L2
namespace L2
open PySem PySem.Spec PyProof.Rows
section
variable {X : Cx} {tg : Expr}
theorem G0{pins:List (Addr×Obj)}{σ:St}{H:Hp}{s:Shared}{R:It->Hp->Prop}{E:Value->Shared->Prop}{lo hi:Int}{t u v:Tok}{tk:Nat}(I:Inv X pins σ H s)(h1:-(2 ^ 62)<=lo)(h2:lo<2 ^ 62)(h3:-(2 ^ 62)<=hi)(h4:hi<2 ^ 62)
  (q:R (Itr lo (hi-lo).toNat) H):wpAny (model X.prog X.w) X.A (pyIter (.ref s.heap.objs.size)) (PIE X pins σ tg R) E { s with heap:=s.heap.push { cls:=.type "range",data:=.fields #[.int lo t,.int hi u,.int 1 v] },toks:=tk }:=by
 refine wpAny_pyIter_range (IsRange.new ..) (small_one h1 h2 h3 h4) ?_;have I1:Inv X pins σ H { s with heap:=s.heap.push { cls:=.type "range",data:=.fields #[.int lo t,.int hi u,.int 1 v] },toks:=tk }:=I.kept fun b o e=>Heap.get?_push_of_some _ e
 refine⟨(s.heap.push { cls:=.type "range",data:=.fields #[.int lo t,.int hi u,.int 1 v] }).objs.size,[(s.heap.push { cls:=.type "range",data:=.fields #[.int lo t,.int hi u,.int 1 v] }).objs.size],_,_,H,rfl,
  I1.kept (t':=tk) fun b o e=>Heap.get?_push_of_some _ e,D2 _ lo (hi-lo).toNat,?_,fun b hb=>?_,q⟩
 ·have e1:lo+((0:Nat):Int)*1=lo:=by simp
  have e2:(((hi-lo).toNat:Nat):Int)-((0:Nat):Int)=Builtin.Range.rangeSize lo hi 1:=by rw[rangeSize_one];split<;>omega
  show IsRangeIter _ _ (lo+((0:Nat):Int)*1) ((((hi-lo).toNat:Nat):Int)-((0:Nat):Int)) 1;rw[e1,e2];exact Heap.get?_push_size _ rfl
 ·have e:b=(s.heap.push { cls:=.type "range",data:=.fields #[.int lo t,.int hi u,.int 1 v] }).objs.size:=by simpa using hb
  subst e;exact I1.fpOk (Nat.le_refl _) (I1.hok.fresh (Nat.le_refl _))
def Mm(ta:TA):TI:=fun σ H R=>ta σ H fun vs H1=>∃j:Int,vs=[.int j]/\-(2 ^ 62)<=j/\j<2 ^ 62/\R (Itr 0 j.toNat) H1
theorem Fs{a:Expr}{ta:TA}{p pos:Pos}(hg:Gl X "range")(hm:X.mg "range" = none)(ha:PA X [a] ta)(hs:starEach [a] X.env=[(false,eval a X.env)]:=by rfl):PI X tg (.Call (.Name "range" p) [a] [] pos) (Mm ta):=by
 intro pins s σ H R I h;refine Call_ (fL I hg hm boot_range (PyProof.Rows.callWith_type1 (thn (ha pos pins s σ H _ I h) fun us s1 zz34=>?_) hs rfl));obtain⟨vs,H1,I1,r1,q1⟩:=zz34;obtain⟨j,e,q1,q2,q⟩:=q1;subst e;cases r1 with
 |cons r rr=>
  cases rr;obtain⟨t,rfl⟩:=r;exact call_range_1 (G0 I1 (by omega) (by omega) q1 q2 (by simpa using q))
def tFor(wi:TI)(g:TG)(tb:TS):TS:=fun D σ H=>wi σ H fun J H1=>∃W:Nat->Nat->St->Hp->Prop,(∃m,W 0 m σ H1)/\∀i m σ H,W i m σ H ->
 (J.stop i H/\D.nx σ H)\/(J.go i H/\∃N:St->Hp->Prop,(∀σ' H',N σ' H'->∃m',m'<m/\W (i+1) m' σ' H')/\∀x H',J.yld i H x H'->g x σ H' fun σ2 H2=>tb { D with nx:=N,ct:=N,bk:=D.nx } σ2 H2)
def kx(fp:List Addr)(h:Heap):List (Addr×Obj):=fp.filterMap fun b=>(h.get? b).map fun o=>(b,o)
theorem lC{fp:List Addr}{h:Heap}{b:Addr}{o:Obj}(hb:b∈fp)(e:h.get? b=some o):(b,o)∈kx fp h:=List.mem_filterMap.mpr ⟨b,hb,by rw[e];rfl⟩
theorem xR{fp:List Addr}{h:Heap}{p:Addr×Obj}(hp:p∈kx fp h):p.1∈fp/\h.get? p.1=some p.2:=by
 obtain⟨b,hb,e⟩:=List.mem_filterMap.mp hp;cases q:h.get? b with
 |none=>rw[q] at e;cases e
 |some o=>
  rw[q] at e;have e':(b,o)=p:=Option.some.inj e;subst e';exact⟨hb,q⟩
theorem Inv.pinned{pins:List (Addr×Obj)}{σ:St}{H:Hp}{s:Shared}{fp:List Addr}(I:Inv X pins σ H s)(hf:∀b∈fp,FpOk X pins H b)(ho:∀b∈fp,∃o,s.heap.get? b=some o/\∀v,o.data≠.cell v):Inv X (pins++kx fp s.heap) σ H s:=
 I.pins_of fun p hp=>(List.mem_append.mp hp).elim (fun z=>I.pin p (List.mem_append_right _ z)) fun z=>by
  obtain⟨hb,e⟩:=xR z;obtain⟨f0,f1,f2,_⟩:=hf p.1 hb;obtain⟨o,e',d⟩:=ho p.1 hb;rw[e] at e';cases e';exact⟨e,f0,f1,f2,d⟩
theorem Inv.unpinned{pins pl:List (Addr×Obj)}{σ:St}{H:Hp}{s:Shared}(I:Inv X (pins++pl) σ H s):Inv X pins σ H s:=I.pins_of fun p hp=>I.pin p (List.mem_append_right _ (List.mem_append_left _ hp))
theorem KW{iter:Expr}{body:List Stmt}{wi:TI}{g:TG}{tb:TS}{pos:Pos}(hp:PassesOwn (model X.prog X.w) X.A X.env X.xe)(hc:X.calm=true)(hi:PI X tg iter wi)(hg:PG X tg g)(hb:PSs X body tb)
  (hs:∀x,foldedSetIterable iter X.env x=pure x:=by intro _;rfl):PS X (.For tg iter body [] pos) (tFor wi g tb):=by
 intro pins s σ H D I h;refine wpAny_For (thn (hi pins s σ H _ I h) fun v s1 h1=>thn h1 fun itv s2 h2=>?_) hs;obtain⟨it,fp,tn,J,H2,e,I2,T,st2,f2,W,⟨m0,w0⟩,turn⟩:=h2;subst e
 -- what stays true of the iterator's objects through the loop
 have stat:∀{H':Hp},(∀b∈fp,H' b=none)->∀b∈fp,FpOk X pins H' b:=fun hn b hb=>⟨hn b hb,(f2 b hb).2⟩
 refine codeAny_forLoop_any (fun n s'=>∃i σ' H',Inv X pins σ' H' s'/\tn i s'.heap/\(∀b∈fp,H' b=none)/\W i n σ' H') ?_ m0 ⟨0,σ,H2,I2,st2,fun b hb=>(f2 b hb).1,w0⟩;rintro n s3 ⟨i,σ3,H3,I3,st3,fr3,w3⟩;rcases turn i n σ3 H3 w3 with⟨stop,qn⟩ | ⟨go,N,hN,step⟩
 ·refine wpAny_passesOwn hp (thn (T.done X rfl rfl rfl hc i pins s3 σ3 H3 X.xe I3 (stat fr3) st3 stop) fun r s4 zz36=>?_)
  obtain⟨hr,I4⟩:=zz36;subst hr;exact wpAny_execs_nil ⟨σ3,H3,I4,qn⟩
 ·refine wpAny_passesOwn hp (thn (T.item X rfl rfl rfl hc i pins s3 σ3 H3 X.xe I3 (stat fr3) st3 go) fun r s4 zz37=>?_)
  obtain⟨u,hr,h4⟩:=zz37;subst hr;refine wpAny_passesOwn hp (thn h4 fun _ s5 zz38=>?_);obtain⟨x,H5,I5,r5,y5,st5,fr5⟩:=zz38;have I5':=I5.pinned (stat fr5) (T.obj _ _ st5);refine wpAny_passesOwn hp (thn (hg _ s5 σ3 H5 x u _ I5' r5 (step x H5 y5)) fun _ s6 zz39=>?_);obtain⟨σ6,H6,I6,q6⟩:=zz39;refine wpAny_passesOwn hp (thn (hb _ s6 σ6 H6 _ I6 q6) fun f s7 q7=>?_);have again:∀{σ7:St}{H7:Hp},Inv X (pins++kx fp s5.heap) σ7 H7 s7->N σ7 H7->∃m,m<n/\∃i σ' H',Inv X pins σ' H' s7/\tn i s7.heap/\(∀b∈fp,H' b=none)/\W i m σ' H':=fun {σ7 H7} I7 n7=>by
   obtain⟨m',hm,w7⟩:=hN σ7 H7 n7;refine⟨m',hm,i+1,σ7,H7,I7.unpinned,T.keep _ _ _ st5 fun b hb o e=>(I7.pin (b,o) (List.mem_append_right _ (List.mem_append_right _ (lC hb e)))).1,fun b hb=>?_,w7⟩;obtain⟨o,e,d⟩:=T.obj _ _ st5 b hb;exact(I7.pin (b,o) (List.mem_append_right _ (List.mem_append_right _ (lC hb e)))).2.1
  cases f with
  |next=>obtain⟨σ7,H7,I7,n7⟩:=q7;exact again I7 n7
  |cont=>obtain⟨σ7,H7,I7,n7⟩:=q7;exact again I7 n7
  |brk=>obtain⟨σ7,H7,I7,q7⟩:=q7;exact⟨σ7,H7,I7.unpinned,q7⟩
  |ret v=>obtain⟨x7,σ7,H7,I7,r7,q7⟩:=q7;exact⟨x7,σ7,H7,I7.unpinned,r7,q7⟩
end
end L2
namespace L2
open PySem PySem.Spec PyProof.Rows
abbrev R2:=V->V->Hp->VK->Prop
def OpR(X:Cx)(f:Value->Value->Sem Value)(r:R2):Prop:=
 ∀(pins:List (Addr×Obj)) (s:Shared) (σ:St) (H:Hp) (x y:V) (v u:Value) (Q:VK),Inv X pins σ H s->RelV x v->RelV y u->r x y H Q ->
  wpAny (model X.prog X.w) X.A (f v u) (EP X pins σ Q) X.xe s
def UnR(X:Cx)(f:Value->Sem Value)(r:V->Hp->VK->Prop):Prop:=
 ∀(pins:List (Addr×Obj)) (s:Shared) (σ:St) (H:Hp) (x:V) (v:Value) (Q:VK),Inv X pins σ H s->RelV x v->r x H Q ->
  wpAny (model X.prog X.w) X.A (f v) (EP X pins σ Q) X.xe s
def gm(X:Cx)(f:Value)(r:List V->Hp->VK->Prop):Prop:=
 ∀(pins:List (Addr×Obj)) (s:Shared) (σ:St) (H:Hp) (xs:List V) (us:List Value) (Q:VK),Inv X pins σ H s->Vals xs us->r xs H Q ->
  wpAny (model X.prog X.w) X.A (call f us) (EP X pins σ Q) X.xe s
def TruR(X:Cx)(r:V->Hp->(Bool->Hp->Prop)->Prop):Prop:=
 ∀(pins:List (Addr×Obj)) (s:Shared) (σ:St) (H:Hp) (x:V) (v:Value) (Q:Bool->Hp->Prop),Inv X pins σ H s->RelV x v->r x H Q ->
  wpAny (model X.prog X.w) X.A (truthy v) (TP X pins σ Q) X.xe s
def tOp(r:R2)(ta tb:TE):TE:=fun σ H Q=>ta σ H fun x H1=>tb σ H1 fun y H2=>r x y H2 Q
def tUn(r:V->Hp->VK->Prop)(ta:TE):TE:=fun σ H Q=>ta σ H fun x H1=>r x H1 Q
def rI(C:Int->Int->Prop)(g:Int->Int->V):R2:=fun x y H Q=>∃i j,x=.int i/\y=.int j/\C i j/\Q (g i j) H
def rI0(g:Int->Int->V):R2:=fun x y H Q=>∃i j,x=.int i/\y=.int j/\Q (g i j) H
def rU(g:Int->V):V->Hp->VK->Prop:=fun x H Q=>∃i,x=.int i/\Q (g i) H
section
variable {X : Cx} {a b c : Expr} {ta tb tc : TE} {pos : Pos}
theorem binT(ha:PE X a ta)(hb:PE X b tb){pins:List (Addr×Obj)}{s:Shared}{σ:St}{H:Hp}{R:V->V->Hp->Prop}(I:Inv X pins σ H s)
  (h:ta σ H fun x H1=>tb σ H1 fun y H2=>R x y H2){Q:Value->Shared->Prop}{f:Value->Value->Sem Value}
  (hf:∀v u s2 x y H2,Inv X pins σ H2 s2->RelV x v->RelV y u->R x y H2->wpAny (model X.prog X.w) X.A (f v u) Q X.xe s2):
  wpAny (model X.prog X.w) X.A (eval a X.env) (fun v s₁=>wpAny (model X.prog X.w) X.A (eval b X.env) (fun u s₂=>wpAny (model X.prog X.w) X.A (f v u) Q X.xe s₂) X.xe s₁) X.xe s:=by
 refine thn (ha pins s σ H _ I h) fun v s1 zz40=>?_
 obtain⟨x,H1,I1,r1,q1⟩:=zz40;refine thn (hb pins s1 σ H1 _ I1 q1) fun u s2 zz41=>?_
 obtain⟨y,H2,I2,r2,q2⟩:=zz41;exact hf v u s2 x y H2 I2 r1 r2 q2
theorem Mn{op:Operator}{r:R2}(ho:OpR X (binaryOp op) r)(ha:PE X a ta)(hb:PE X b tb):PE X (.BinOp a op b pos) (tOp r ta tb):=by
 intro pins s σ H Q I h;exact wpAny_BinOp (binT ha hb I h fun v u s2 x y H2 I2 rx ry q=>ho pins s2 σ H2 x y v u Q I2 rx ry q)
theorem IA{op:UnaryOp}{r:V->Hp->VK->Prop}(ho:UnR X (unaryOp op) r)(ha:PE X a ta):PE X (.UnaryOp op a pos) (tUn r ta):=by
 intro pins s σ H Q I h;refine UnaryOp_ (thn (ha pins s σ H _ I h) fun v s1 zz42=>?_);obtain⟨x,H1,I1,r1,q1⟩:=zz42;exact ho pins s1 σ H1 x v Q I1 r1 q1
theorem opI{f:Value->Value->Sem Value}{C:Int->Int->Prop}{g:Int->Int->Int}
  (rule:∀(i j:Int) (t u:Tok) (s:Shared) (Q:Value->Shared->Prop) (E:Value->Shared->Prop),C i j->Q (.int (g i j) s.toks) { s with toks:=s.toks+1 }->wpAny (model X.prog X.w) X.A (f (.int i t) (.int j u)) Q E s):
  OpR X f (rI C fun i j=>.int (g i j)):=by
 intro pins s σ H x y v u Q I rx ry h;obtain⟨i,j,rfl,rfl,hc,q⟩:=h;obtain⟨t,rfl⟩:=rx;obtain⟨t',rfl⟩:=ry;exact rule i j t t' s _ _ hc ⟨.int (g i j),H,I.tok _,⟨_,rfl⟩,q⟩
theorem opI0{f:Value->Value->Sem Value}{g:Int->Int->Int}
  (rule:∀(i j:Int) (t u:Tok) (s:Shared) (Q:Value->Shared->Prop) (E:Value->Shared->Prop),Q (.int (g i j) s.toks) { s with toks:=s.toks+1 }->wpAny (model X.prog X.w) X.A (f (.int i t) (.int j u)) Q E s):
  OpR X f (rI0 fun i j=>.int (g i j)):=by
 intro pins s σ H x y v u Q I rx ry h;obtain⟨i,j,rfl,rfl,q⟩:=h;obtain⟨t,rfl⟩:=rx;obtain⟨t',rfl⟩:=ry;exact rule i j t t' s _ _ ⟨.int (g i j),H,I.tok _,⟨_,rfl⟩,q⟩
theorem opB0{f:Value->Value->Sem Value}{g:Int->Int->Bool}
  (rule:∀(i j:Int) (t u:Tok) (s:Shared) (Q:Value->Shared->Prop) (E:Value->Shared->Prop),Q (.bool (g i j)) s->wpAny (model X.prog X.w) X.A (f (.int i t) (.int j u)) Q E s):
  OpR X f (rI0 fun i j=>.bl (g i j)):=by
 intro pins s σ H x y v u Q I rx ry h;obtain⟨i,j,rfl,rfl,q⟩:=h;obtain⟨t,rfl⟩:=rx;obtain⟨t',rfl⟩:=ry;exact rule i j t t' s _ _ ⟨.bl (g i j),H,I,rfl,q⟩
def CDiv(i j:Int):Prop:=0<j/\j<1073741824
def CPow(i j:Int):Prop:=0<=j/\j<=1000000/\i.natAbs<2 ^ 64
def CMul(i j:Int):Prop:=(-(2 ^ 64)<i/\i<2 ^ 64)\/(-(2 ^ 64)<j/\j<2 ^ 64)
theorem CMul.ok{i j:Int}(h:CMul i j):IntMulOk i j:=by
 rcases h with⟨h1,h2⟩ | ⟨h1,h2⟩
 ·exact .of_left (intBits_le_64 h1 h2)
 ·exact .of_right (intBits_le_64 h1 h2)
theorem D4(k:Nat):(0:Int)<=2 ^ k:=by
 rw[two_pow_cast];exact Int.natCast_nonneg _
theorem KY:OpR X (binaryOp .Add) (rI0 fun i j=>.int (i+j)):=opI0 fun _ _ _ _ _ _ _ q=>add_int q
theorem KZ:OpR X (binaryOp .Sub) (rI0 fun i j=>.int (i-j)):=opI0 fun _ _ _ _ _ _ _ q=>sub_int q
theorem K0:OpR X (binaryOp .Mult) (rI CMul fun i j=>.int (i*j)):=opI fun _ _ _ _ _ _ _ hc q=>mul_int q hc.ok
theorem Ja:OpR X (binaryOp .FloorDiv) (rI CDiv fun i j=>.int (i / j)):=opI fun i j _ _ _ _ _ hc q=>by
 have h1:(0:Int)<j:=hc.1;have h2:j<1073741824:=hc.2;exact floordiv_int (by omega) (by rw[Int.fdiv_eq_ediv_of_nonneg i (by omega)];exact q) (.inl (PyProof.noPylong_small (by omega)))
theorem K1:OpR X (binaryOp .Mod) (rI (fun _ j=>0<j) fun i j=>.int (i%j)):=opI fun i j _ _ _ _ _ hc q=>by
 have h1:(0:Int)<j:=hc;exact mod_int' (by omega) (by rw[Int.fmod_eq_emod_of_nonneg i (by omega)];exact q)
theorem K3:OpR X (binaryOp .Pow) (rI CPow fun i j=>.int (i ^ j.toNat)):=opI fun _ _ _ _ _ _ _ hc q=>pow_int_small hc.1 hc.2.1 hc.2.2 q
theorem K4:OpR X (binaryOp .LShift) (rI CPow fun i j=>.int (i*2 ^ j.toNat)):=opI fun _ _ _ _ _ _ _ hc q=>lshift_int_small hc.1 hc.2.1 hc.2.2 q
theorem K5:OpR X (binaryOp .RShift) (rI (fun _ j=>0<=j) fun i j=>.int (i / 2 ^ j.toNat)):=opI fun i j _ _ _ _ _ hc q=>
 rshift_int hc (by rw[Int.fdiv_eq_ediv_of_nonneg i (D4 _)];exact q)
theorem K6:OpR X (binaryOp .BitAnd) (rI0 fun i j=>.int (Builtin.bitAnd i j)):=opI0 fun _ _ _ _ _ _ _ q=>and_int q
theorem Mp:OpR X (binaryOp .BitOr) (rI0 fun i j=>.int (Builtin.bitOr i j)):=opI0 fun _ _ _ _ _ _ _ q=>or_int q
theorem K7:OpR X (binaryOp .BitXor) (rI0 fun i j=>.int (Builtin.bitXor i j)):=opI0 fun _ _ _ _ _ _ _ q=>xor_int q
theorem unI{f:Value->Sem Value}{g:Int->Int}
  (rule:∀(i:Int) (t:Tok) (s:Shared) (Q:Value->Shared->Prop) (E:Value->Shared->Prop),Q (.int (g i) s.toks) { s with toks:=s.toks+1 }->wpAny (model X.prog X.w) X.A (f (.int i t)) Q E s):
  UnR X f (rU fun i=>.int (g i)):=by
 intro pins s σ H x v Q I rx h;obtain⟨i,rfl,q⟩:=h;obtain⟨t,rfl⟩:=rx;exact rule i t s _ _ ⟨.int (g i),H,I.tok _,⟨_,rfl⟩,q⟩
theorem K8:UnR X (unaryOp .USub) (rU fun i=>.int (-i)):=unI fun _ _ _ _ _ q=>neg_int q
theorem K9:UnR X (unaryOp .Invert) (rU fun i=>.int (Builtin.bitNot i)):=unI fun _ _ _ _ _ q=>invert_int q
end
section
variable {X : Cx} {a b c : Expr} {ta tb tc : TE} {pos : Pos}
theorem Ft{pins:List (Addr×Obj)}{σ:St}{H:Hp}{s:Shared}{Q:VK}{k k':Bool}(I:Inv X pins σ H s)(q:Q (.bl k) H)(e:k=k'):EP X pins σ Q (.bool k') s:=by
 subst e;exact⟨.bl k,H,I,rfl,q⟩
theorem Mq:OpR X (compareOp .Lt) (rI0 fun i j=>.bl (decide (i<j))):=opB0 fun _ _ _ _ _ _ _ q=>lt_int q
theorem Mr:OpR X (compareOp .LtE) (rI0 fun i j=>.bl (decide (i<=j))):=opB0 fun _ _ _ _ _ _ _ q=>le_int q
theorem Ms:OpR X (compareOp .Gt) (rI0 fun i j=>.bl (decide (j<i))):=opB0 fun _ _ _ _ _ _ _ q=>gt_int q
theorem Mu:OpR X (compareOp .GtE) (rI0 fun i j=>.bl (decide (j<=i))):=opB0 fun _ _ _ _ _ _ _ q=>ge_int q
theorem La:OpR X (compareOp .Is) (fun x y H Q=>y=.non/\Q (.bl (decide (x=.non))) H):=by
 intro pins s σ H x y v u Q I rx ry h;obtain⟨rfl,q⟩:=h;cases ry;refine is_none_gen (Ft I q ?_);cases x<;>first
  |(cases rx;rfl)
  |(obtain⟨t,rfl⟩:=rx;rfl)
theorem Jb:OpR X (compareOp .IsNot) (fun x y H Q=>y=.non/\Q (.bl (!decide (x=.non))) H):=by
 intro pins s σ H x y v u Q I rx ry h;obtain⟨rfl,q⟩:=h;cases ry;refine isnot_none_gen (Ft I q ?_);cases x<;>first
  |(cases rx;rfl)
  |(obtain⟨t,rfl⟩:=rx;rfl)
theorem Jc{op:CmpOp}{r:R2}(ho:OpR X (compareOp op) r)(ha:PE X a ta)(hb:PE X b tb)(hm:behindInMarks op b=false):PE X (.Compare a [op] [b] pos) (tOp r ta tb):=by
 intro pins s σ H Q I h;exact wpAny_Compare1 (binT ha hb I h fun v u s2 x y H2 I2 rx ry q=>ho pins s2 σ H2 x y v u Q I2 rx ry q) hm
def Mv(t:TE):TT:=fun σ H Q=>t σ H fun x H'=>∃k,x=.bl k/\Q k H'
theorem Jd{op:CmpOp}{r:R2}(ho:OpR X (compareOp op) r)(ha:PE X a ta)(hb:PE X b tb)(hm:behindInMarks op b=false):PT X (.Compare a [op] [b] pos) (Mv (tOp r ta tb)):=by
 intro pins s σ H Q I h;refine wpAny_isTrue_Compare1 (thn (ha pins s σ H _ I h) fun v s1 ⟨x,H1,I1,r1,q1⟩=>thn (hb pins s1 σ H1 _ I1 q1) fun u s2 ⟨y,H2,I2,r2,q2⟩=>
  thn (ho pins s2 σ H2 x y v u _ I2 r1 r2 q2) fun c s3 ⟨z,H3,I3,r3,k,e,q3⟩=>?_) hm
 subst e;cases r3;exact wpAny_truthy_bool ⟨H3,I3,q3⟩
def TruV (K:PySem.W.Frag) (x:V) (H:Hp) (k:Bool):Prop:=
  match x with
  | .non=>k = false
  | .bl b=>k = b
  | .int i=>k = (i != 0)
  | .str y=>y.length<=sizeLine/\k = ((y.length:Int) != 0)
  | .byt y=>y.size<=sizeLine/\k = ((y.size:Int) != 0)
  | .ref p=>(∃ xs,SqL K H p xs/\k = !xs.isEmpty) \/ (∃ xs,SqT K H p xs/\k = !xs.isEmpty) \/ ∃ kvs,H p = some (.dK kvs)/\k = !kvs.isEmpty
  | _=>False
theorem D7{κ:Type}{kvs:List (κ×V)}{vs:List (κ×Value)}(r:KV kvs vs):(!vs.isEmpty) = !kvs.isEmpty:=by
 cases r<;>rfl
theorem ui{xs:List V}{its:List Value}(r:Vals xs its):(!its.toArray.isEmpty) = !xs.isEmpty:=by
 cases r<;>simp
theorem lV:(sizeLine:Nat)<2 ^ 63:=by rw[sizeLine_eq];decide
theorem Lb:TruR X (fun x H Q=>∃ k,TruV X.K x H k/\Q k H):=by
  intro pins s σ H x v Q I rx h
  obtain ⟨k,e,q⟩:=h
  have hl:=lV
  have hs:sizeLine = 16777216:=sizeLine_eq
  cases x with
  | non=>
    cases rx
    have e':k = false:=e
    subst e'
    exact truthy_none ⟨H,I,q⟩
  | bl b=>
    cases rx
    have e':k = b:=e
    subst e'
    exact wpAny_truthy_bool ⟨H,I,q⟩
  | int i=>
    obtain ⟨t,rfl⟩:=rx
    have e':k = (i != 0):=e
    subst e'
    exact PySem.P.truthy_int ⟨H,I,q⟩
  | str y=>
    obtain ⟨t,rfl⟩:=rx
    obtain ⟨hy,e'⟩:y.length<=sizeLine/\k = ((y.length:Int) != 0):=e
    subst e'
    exact PySem.P.truthy_str (by omega) ⟨H,I.tok _,q⟩
  | byt y=>
    obtain ⟨t,rfl⟩:=rx
    obtain ⟨hy,e'⟩:y.size<=sizeLine/\k = ((y.size:Int) != 0):=e
    subst e'
    exact PySem.W.truthy_bytes (by omega) ⟨H,I.tok _,q⟩
  | ref p=>
    cases rx
    have e':(∃ xs,SqL X.K H p xs/\k = !xs.isEmpty) \/ (∃ xs,SqT X.K H p xs/\k = !xs.isEmpty) \/ ∃ kvs,H p = some (.dK kvs)/\k = !kvs.isEmpty:=e
    rcases e' with ⟨xs,hx,e'⟩ | ⟨xs,hx,e'⟩ | ⟨kvs,hx,e'⟩
    · subst e'
      obtain ⟨its,r,pl,hz⟩:=I.list hx
      have hlen:=r.length
      exact wpAny_truthy_list pl.isList (by simp only [List.size_toArray]; omega) ⟨H,I.tok _,by rw [ui r]; exact q⟩
    · subst e'
      obtain ⟨its,r,pl,hz⟩:=I.tuple hx
      have hlen:=r.length
      exact truthy_tuple pl (by simp only [List.size_toArray]; omega) ⟨H,I.tok _,by rw [ui r]; exact q⟩
    · subst e'
      obtain ⟨hz,hS,vs,r,m⟩:kvs.length<=sizeLine/\(p == sysModules) = false/\∃ vs,KV kvs vs/\s.heap.DictOf (bm X.prog X.w) p vs:=I.hok p _ hx
      have hlen:kvs.length = vs.length:=Paired.length r
      exact wpAny_truthy_dict hS m (by omega) ⟨H,I.tok _,by rw [D7 r]; exact q⟩
  | _=>exact (show False from e).elim
theorem G2(ha:PE X a ta)(he:∀whole,isTrue a X.env whole=(do let v ←whole;standAt a.pos;holding [v] (truthy v))):
  PT X a (fun σ H Q=>ta σ H fun x H'=>∃k,TruV X.K x H' k/\Q k H'):=by
 intro pins s σ H Q I h;refine isTrue_plain (thn (ha pins s σ H _ I h) fun v s1 zz45=>?_) (he _);obtain⟨x,H1,I1,r1,q1⟩:=zz45;exact Lb pins s1 σ H1 x v Q I1 r1 q1
theorem D8:OpR X (binaryOp .Add) (fun x y H Q=>∃i j,x=.str i/\y=.str j/\i.length+j.length<=sizeLine/\Q (.str (i++j)) H):=by
 intro pins s σ H x y v u Q I rx ry h;obtain⟨i,j,rfl,rfl,hz,q⟩:=h;obtain⟨t,rfl⟩:=rx;obtain⟨t',rfl⟩:=ry;exact add_str (fun t' tk=>⟨.str (i++j),H,I.tok _,⟨_,rfl⟩,q⟩) hz
theorem vals1{x:V}{us:List Value}(r:Vals [x] us):∃u,us=[u]/\RelV x u:=by
 cases r with
 |cons r1 r2=>cases r2;exact⟨_,rfl,r1⟩
theorem vals2{x y:V}{us:List Value}(r:Vals [x,y] us):∃u w',us=[u,w']/\RelV x u/\RelV y w':=by
 cases r with
 |cons r1 r2=>
  cases r2 with
  |cons r3 r4=>cases r4;exact⟨_,_,rfl,r1,r3⟩
theorem Fu(hc:X.calm=true):gm X (.builtin "min") (fun xs H Q=>∃i j,xs=[.int i,.int j]/\Q (.int (if j<i then j else i)) H):=by
 intro pins s σ H xs us Q I r h;obtain⟨i,j,rfl,q⟩:=h;obtain⟨u,w',rfl,⟨t,rfl⟩,⟨t',rfl⟩⟩:=vals2 r;refine min_two_ints (I.ok.hd hc) fun h' tk k=>⟨_,H,I.kept k,?_,q⟩
 by_cases hj:j<i
 ·rw[if_pos hj,if_pos hj];exact⟨_,rfl⟩
 ·rw[if_neg hj,if_neg hj];exact⟨_,rfl⟩
theorem xS:gm X (.type "int") (fun xs H Q=>(∃i,xs=[.int i]/\Q (.int i) H) \/ ∃k,xs=[.bl k]/\Q (.int (if k then 1 else 0)) H):=by
 intro pins s σ H xs us Q I r h;rcases h with⟨i,rfl,q⟩ | ⟨k,rfl,q⟩
 ·obtain⟨u,rfl,t,rfl⟩:=vals1 r
  exact call_int_int ⟨.int i,H,I,⟨_,rfl⟩,q⟩
 ·obtain⟨u,rfl,r1⟩:=vals1 r
  cases r1;exact call_int_bool ⟨.int (if k then 1 else 0),H,I.tok _,⟨_,rfl⟩,q⟩
end
end L2
namespace L2
open PySem PySem.Spec PyProof.Rows
structure ObjM (h:Heap) (x dx C:Addr) (mA:Str->Option Value):Prop where
 obj:h.get? x=some (PySem.W.instObj C dx)
 ns:h.Ns1 dx mA
 ne:dx≠x
theorem Fv{h:Heap}{dx:Addr}{mA:Str->Option Value}(n:h.Ns1 dx mA):∃od,h.get? dx=some od/\∀name,PySem.W.lookIn name od=some (mA name):=by
 obtain⟨o,es,ep,ho,hd,hk,_,hm⟩:=n;refine⟨o,ho,fun name=>?_⟩;have e:=hm name;unfold nsFind findBy at e;rw[←Array.find?_toList] at e;unfold PySem.W.lookIn;rw[hd];dsimp only;split
 ·rename_i y q
  rw[q] at e;exact congrArg some e
 ·rename_i q
  rw[q] at e;have a:es.toList.any (·.refKey)=false:=by
   rw[List.any_eq_false];intro y hy;obtain⟨z,t,hkey⟩:=hk y (Array.mem_toList_iff.mp hy);simp[DictEntry.refKey,hkey]
  have a':¬es.toList.any (·.refKey)=true:=by rw[a];exact Bool.false_ne_true
  rw[if_neg a'];exact congrArg some e
theorem ObjM.look{h:Heap}{x dx C:Addr}{mA:Str->Option Value}(I:ObjM h x dx C mA):∃od,PySem.W.InstAt h x (PySem.W.instObj C dx) C (some od)/\∀name,PySem.W.lookIn name od=some (mA name):=
 let⟨od,ho,hl⟩:=Fv I.ns;⟨od,⟨I.obj,rfl,rfl,ho⟩,hl⟩
section
variable {prog : Program} {w : World} {A : Around} {E : Value -> Shared -> Prop} {s : Shared} {K : PySem.W.Frag} {x dx C f : Addr} {mA : Str -> Option Value} {name : Str} {v : Value}
theorem Je{expr:Bool}{Q:Value->Shared->Prop}(X:K.In s.heap)(I:ObjM s.heap x dx C mA)(hg:PySem.W.plainGet K C name=true)(hh:PySem.W.hasDictIn K C=true)
  (ha:PySem.W.findIn K (.ref C) name=some none) (hv:mA name=some v) (hv':PySem.W.handedIn v=true) (h:Q v { s with toks:=s.toks+1 }):
  wpAny (model prog w) A (getAttr (.ref x) name expr) Q E s:=by
 obtain⟨od,J,hl⟩:=I.look;exact PySem.W.get_value X J (PySem.W.plainGet_of hg).1 (PySem.W.findObj_own hh ha rfl (by rw[hl,hv])) hv' h
theorem G4{pl:Sem Bool}{Q:Value×List Value->Shared->Prop}(X:K.In s.heap)(I:ObjM s.heap x dx C mA)(hg:PySem.W.plainGet K C name=true)
  (hf:PySem.W.findIn K (.ref C) name=some (some (.ref f))) (ht:PySem.W.isFn K (.ref f)=true) (hv:mA name=none) (h:Q (.ref f,[.ref x]) s):
  wpAny (model prog w) A (getMethod (.ref x) name pl) Q E s:=by
 obtain⟨od,J,hl⟩:=I.look;exact PySem.W.method_fn X J (PySem.W.plainGet_of hg).1 (PySem.W.plainGet_of hg).2 hf (beq_iff_eq.mp ht) (by show(PySem.W.lookIn name od).map (·.isSome)=some false;rw[hl,hv];rfl) h
theorem Jf{ns:List Str}{Q:Unit->Shared->Prop}(X:K.In s.heap)(I:ObjM s.heap x dx C mA)
  (hs:PySem.W.findIn K (.ref C) "__setattr__" = some (some (.builtin "object.__setattr__"))) (hp:PySem.W.plainOver K C=true) (ht:PySem.W.takerIn K C name=some none) (hh:PySem.W.hasDictIn K C=true)
  (hw:PySem.Within mA ns) (hsz:ns.length<=sizeLine)
  (h:∀h',ObjM h' x dx C (fun y=>if y=name then some v else mA y)->Heap.SameBut dx s.heap h'->Q () { s with heap:=h',toks:=s.toks+2 }):
  wpAny (model prog w) A (setAttr (.ref x) name v) Q E s:=by
 obtain⟨od,J,hl⟩:=I.look;refine PySem.W.set_plain X J hs (PySem.W.osa_open (s:={ s with toks:=s.toks+1 }) (r:=none) X J hp ht fun b=>?_);obtain⟨cd,hc,hd'⟩:=PySem.W.any_some hh;have hx:s.heap.get? x=some ⟨.ref C,some dx,.plain,#[]⟩:=I.obj;refine wpAny_bind (wpAny_pure (wpAny_bind (wpAny_bind (wpAny_loadPart hx (wpAny_bind (PySem.W.Looks.here (s:={ s with toks:=s.toks+1 }) (PySem.W.looks_clsIn X hc) ?_))))));rw[hd'];refine wpAny_pure (a:=some dx) (wpAny_bind (wpAny_pure (wpAny_bind ?_)));refine wpAny_nsSet1 (s:={ s with toks:=s.toks+1 }) I.ns fun h' hn2 hs2=>?_
 obtain⟨oD,esD,epD,hoD,hdD,hcD⟩:=hn2.count (PySem.Within.cons name v hw);refine wpAny_bind (wpAny_lookBehind hoD (by rw[hdD];exact pastItsLine_dict (Nat.le_trans hcD (by rw[List.length_cons];omega))) ?_);exact wpAny_pure (h _ ⟨(hs2.2 _ (Ne.symm I.ne)).trans I.obj,hn2,I.ne⟩ hs2)
theorem G5{R:Result->Shared->Prop}{vs:List Value}{kw:List (Str×Value)}(X:K.In s.heap)(hm:PySem.W.makesIn K C=true)
  (hi:PySem.W.findIn K (.ref C) "__init__" = some (some (.ref f))) (hf:PySem.W.typeIn K (.ref f)=some (.type "function"))
  (h:codeAny (model prog w) (A.under (.builtin "type.__call__" ⟨.ref C::vs,kw⟩)) (.call (.ref f) ⟨.ref (s.heap.objs.size+1)::vs,kw⟩) (PySem.W.InitBack (s.heap.objs.size+1) R)
   { s with heap:=(s.heap.push PySem.W.emptyDict).push (PySem.W.instObj C s.heap.objs.size) }):
  codeAny (model prog w) A (.call (.ref C) ⟨vs,kw⟩) R s:=by
 obtain⟨hh,g,d,t,os⟩:=s;exact PySem.W.make_core (PySem.W.makes_of X hm) (PySem.W.looks_findIn X hi) (fun self=>PySem.W.bind_fn X self hf) (.inl rfl) h
end
def putF(f:Str)(v:V):List (Str×V)->List (Str×V)
 |[]=>[(f,v)]
 |(g,x)::r=>if g=f then(g,v)::r else(g,x)::putF f v r
theorem sC(f g:Str)(v:V):∀fs:List (Str×V),(putF f v fs).lookup g=if g=f then some v else fs.lookup g
 |[]=>by
  show List.lookup g [(f,v)]=_;by_cases h:g=f
  ·have hb:(g==f)=true:=beq_iff_eq.mpr h
   simp only[List.lookup,hb,if_pos h]
  ·have hb:(g==f)=false:=beq_eq_false_iff_ne.mpr h
   simp only[List.lookup,hb,if_neg h]
 |(k,x)::r=>by
  have ih:=sC f g v r;rw[show putF f v ((k,x)::r)=(if k=f then(k,v)::r else(k,x)::putF f v r) from rfl];by_cases hk:k=f
  ·rw[if_pos hk]
   by_cases h:g=k
   ·have hb:(g==k)=true:=beq_iff_eq.mpr h
    simp only[List.lookup,hb,if_pos (h.trans hk)]
   ·have hb:(g==k)=false:=beq_eq_false_iff_ne.mpr h
    simp only[List.lookup,hb,if_neg (fun e:g=f=>h (e.trans hk.symm))]
  ·rw[if_neg hk]
   by_cases h:g=k
   ·have hb:(g==k)=true:=beq_iff_eq.mpr h
    simp only[List.lookup,hb,if_neg (fun e:g=f=>hk (h.symm.trans e))]
   ·have hb:(g==k)=false:=beq_eq_false_iff_ne.mpr h
    simp only[List.lookup,hb];exact ih
theorem p9(f:Str)(v:V):∀fs:List (Str×V),f∈(putF f v fs).map (·.1)/\∀g,g∈fs.map (·.1)->g∈(putF f v fs).map (·.1)
 |[]=>⟨by simp[putF],fun g h=>by simp at h⟩
 |(k,x)::r=>by
  obtain⟨i1,i2⟩:=p9 f v r;rw[show putF f v ((k,x)::r)=(if k=f then(k,v)::r else(k,x)::putF f v r) from rfl];by_cases hk:k=f
  ·rw[if_pos hk]
   subst hk;exact⟨by simp,fun g h=>by simpa using h⟩
  ·rw[if_neg hk]
   refine⟨?_,fun g h=>?_⟩
   ·rw[List.map_cons]
    exact List.mem_cons_of_mem _ i1
   ·rw[List.map_cons] at h ⊢
    rcases List.mem_cons.mp h with e | e
    ·exact List.mem_cons.mpr (.inl e)
    ·exact List.mem_cons_of_mem _ (i2 g e)
theorem sD(f:Str)(v:V):∀fs:List (Str×V),(putF f v fs).length<=fs.length+1
 |[]=>by simp[putF]
 |(k,x)::r=>by
  have ih:=sD f v r;rw[show putF f v ((k,x)::r)=(if k=f then(k,v)::r else(k,x)::putF f v r) from rfl];by_cases hk:k=f
  ·rw[if_pos hk,List.length_cons,List.length_cons];omega
  ·rw[if_neg hk,List.length_cons,List.length_cons];omega
theorem RelO.some_of{v:V}{o:Option Value}(r:RelO (some v) o):∃u,o=some u/\RelV v u:=by
 cases o with
 |none=>exact(show False from r).elim
 |some u=>exact⟨u,rfl,r⟩
theorem RelO.none_of{o:Option Value}(r:RelO none o):o=none:=by
 cases o with
 |none=>rfl
 |some u=>exact(show False from r).elim
theorem Fw{v:V}{u:Value}(r:RelV v u):PySem.W.handedIn u=true:=by
 cases v with
 |non=>cases(show u=Value.none from r);rfl
 |bl b=>cases(show u=Value.bool b from r);rfl
 |int i=>obtain⟨t,e⟩:=(show ∃t,u=Value.int i t from r);cases e;rfl
 |str x=>obtain⟨t,e⟩:=(show ∃t,u=Value.str x t from r);cases e;rfl
 |byt b=>obtain⟨t,e⟩:=(show ∃t,u=Value.bytes b t from r);cases e;rfl
 |flt b=>obtain⟨t,e⟩:=(show ∃t,u=Value.float b t from r);cases e;rfl
 |ref a=>cases(show u=Value.ref a from r);rfl
 |ty n=>cases(show u=Value.type n from r);rfl
section
variable {P : Program} {w : World} {H H' : Hp} {h h' : Heap} {a C dx : Addr} {fs fs' : List (Str × V)}
theorem rc(hok:HOk P w H h)(e:H a=some (.ins C dx fs)):∃mA,ObjM h a dx C mA/\(∀f,RelO (fs.lookup f) (mA f))/\PySem.Within mA (fs.map (·.1))/\fs.length<=1000/\H dx=some (.own a):=by
 obtain⟨d,z,ne,ob,mA,n,r,q⟩:=(show aY P w H h a (.ins C dx fs) from hok a _ e);exact⟨mA,⟨ob,n,ne⟩,r,q,z,d⟩
end
structure Cls (K:PySem.W.Frag) (C:Addr):Prop where
 pg:PySem.W.plainGet K C Str.empty=true
 hd:PySem.W.hasDictIn K C=true
 po:PySem.W.plainOver K C=true
 sa:PySem.W.findIn K (.ref C) "__setattr__" = some (some (.builtin "object.__setattr__"))
theorem Cls.get{K:PySem.W.Frag}{C:Addr}(c:Cls K C)(f:Str):PySem.W.plainGet K C f=true:=c.pg
def cf(K:PySem.W.Frag)(C:Addr)(f:Str):Prop:=PySem.W.findIn K (.ref C) f=some none
theorem cf.taker{K:PySem.W.Frag}{C:Addr}{f:Str}(n:cf K C f):PySem.W.takerIn K C f=some none:=by
 unfold PySem.W.takerIn;rw[show PySem.W.findIn K (.ref C) f=some none from n];rfl
structure Con (K:PySem.W.Frag) (C:Addr) (f:Str) (v:V) (u:Value):Prop where
 at_:PySem.W.findIn K (.ref C) f=some (some u)
 rel:RelV v u
 get:PySem.W.specialIn K u "__get__" = some none
 cp:PySem.W.copiedNames.contains f=false
structure Meth (K:PySem.W.Frag) (C:Addr) (m:Str) (f:Addr):Prop where
 at_:PySem.W.findIn K (.ref C) m=some (some (.ref f))
 fn:PySem.W.isFn K (.ref f)=true
 kp:PySem.W.keepIn K (.ref f)=true
section
variable {X : Cx} {pins : List (Addr × Obj)} {σ : St} {H : Hp} {s : Shared} {a C dx : Addr} {fs : List (Str × V)} {f : Str} {v : V} {A : Around} {E : Value -> Shared -> Prop}
theorem D9{b:Bool}{Q:Value->Shared->Prop}(I:Inv X pins σ H s)(e:H a=some (.ins C dx fs))(c:Cls X.K C)(n:cf X.K C f)(l:fs.lookup f=some v)
  (h:∀u s',Inv X pins σ H s'->RelV v u->Q u s'):wpAny (model X.prog X.w) A (getAttr (.ref a) f b) Q E s:=by
 obtain⟨mA,O,r,_,_,_⟩:=rc I.hok e;obtain⟨u,hu,ru⟩:=RelO.some_of (v:=v) (o:=mA f) (by rw[←l];exact r f);exact Je I.kIn O (c.get f) c.hd n hu (Fw ru) (h u _ (I.tok _) ru)
theorem uj{m:Str}{g:Addr}{pl:Sem Bool}{Q:Value×List Value->Shared->Prop}(I:Inv X pins σ H s)(e:H a=some (.ins C dx fs))(c:Cls X.K C)(k:Meth X.K C m g)(l:fs.lookup m=none)
  (h:Q (.ref g,[.ref a]) s):wpAny (model X.prog X.w) A (getMethod (.ref a) m pl) Q E s:=by
 obtain⟨mA,O,r,_,_,_⟩:=rc I.hok e;have hn:mA m=none:=RelO.none_of (by rw[←l];exact r m);exact G4 I.kIn O (c.get m) k.at_ k.fn hn h
theorem Ea{y:V}{u:Value}{Q:Unit->Shared->Prop}(I:Inv X pins σ H s)(e:H a=some (.ins C dx fs))(c:Cls X.K C)(n:cf X.K C f)(hl:fs.length<1000)(ry:RelV y u)
  (h:∀s',Inv X pins σ (upd H a (.ins C dx (putF f y fs))) s'->Q () s'):wpAny (model X.prog X.w) A (setAttr (.ref a) f u) Q E s:=by
 obtain⟨mA,O,r,wi,_,ho⟩:=rc I.hok e;have hz:(fs.map (·.1)).length<=sizeLine:=by rw[List.length_map,sizeLine_eq];omega
 refine Jf I.kIn O c.sa c.po n.taker c.hd wi hz fun h' O' sb=>h _ ?_
 have hd:∃o,h'.get? dx=some o:=let⟨o,_,_,e',_⟩:=O'.ns;⟨o,e'⟩;refine I.write (x:=a) (e:=dx) (by rw[e];exact True.intro) (.inr ho) (fun b q hb z=>(sb.2 b hb).trans z) hd ?_;refine⟨by rw[aI O.ne];exact ho,?_,O.ne,O'.obj,_,O'.ns,fun g=>?_,fun g hg=>?_⟩
 ·have:=sD f y fs;omega
 ·show RelO ((putF f y fs).lookup g) (if g=f then some u else mA g)
  rw[sC];by_cases q:g=f
  ·rw[if_pos q,if_pos q];exact ry
  ·rw[if_neg q,if_neg q];exact r g
 ·by_cases q:g=f
  ·rw[q];exact(p9 f y fs).1
  ·refine(p9 f y fs).2 g (wi g fun z=>hg ?_)
   show(if g=f then some u else mA g)=none;rw[if_neg q];exact z
theorem Inv.made(I:Inv X pins σ H s):Inv X pins σ (upd (upd H s.heap.objs.size (.own (s.heap.objs.size+1))) (s.heap.objs.size+1) (.ins C s.heap.objs.size []))
  { s with heap:=(s.heap.push PySem.W.emptyDict).push (PySem.W.instObj C s.heap.objs.size) }:=by
 have e1:(s.heap.push PySem.W.emptyDict).get? s.heap.objs.size=some PySem.W.emptyDict:=Heap.get?_push_size s.heap rfl;have e2:((s.heap.push PySem.W.emptyDict).push (PySem.W.instObj C s.heap.objs.size)).get? (s.heap.objs.size+1)=some (PySem.W.instObj C s.heap.objs.size):=by
  have:=Heap.get?_push_size (s.heap.push PySem.W.emptyDict) (o:=PySem.W.instObj C s.heap.objs.size) rfl
  rwa [Heap.size_push] at this
 have e3:(s.heap.push PySem.W.emptyDict).Ns s.heap.objs.size (fun _=>none):=⟨PySem.W.emptyDict,#[],_,e1,rfl,(fun e he=>absurd he (by simp)),fun _=>rfl⟩;have I1:=I.laid (a:=s.heap.objs.size) (o:=.own (s.heap.objs.size+1)) (h':=s.heap.push PySem.W.emptyDict) (t':=s.toks) (fun b u q=>Heap.get?_push_of_some _ q) (Nat.le_refl _) ⟨_,e1⟩;refine I1.laid (a:=s.heap.objs.size+1) (o:=.ins C s.heap.objs.size []) (t':=s.toks) (fun b u q=>Heap.get?_push_of_some _ q) (Nat.le_of_eq (Heap.size_push _ _)) ?_;have ne:s.heap.objs.size≠s.heap.objs.size+1:=Nat.ne_of_lt (Nat.lt_succ_self _);refine⟨by rw[aI ne,aC],Nat.zero_le _,ne,e2,fun _=>none,(Heap.Ns1.of_empty e3).at fun o q=>Heap.get?_push_of_some _ q,fun _=>True.intro,fun y hy=>absurd rfl hy⟩
theorem Jg{prog:Program}{w:World}{env:Env}{e:Expr}{f:Str}{pos:Pos}{s:Shared}{Q:Value->Shared->Prop}(hb:attributeBase e f env (eval e env)=eval e env)
  (h:wpAny (model prog w) A (eval e env) (fun o s₁=>wpAny (model prog w) A (getAttr o f true) Q E s₁) E s):wpAny (model prog w) A (eval (.Attribute e f pos) env) Q E s:=
 Attribute_any_ h (by rw[arm_eval_Attribute,hb])
end
def tFld(K:PySem.W.Frag)(ta:TE)(f:Str):TE:=fun σ H Q=>ta σ H fun x H1=>∃a C dx fs v,x=.ref a/\H1 a=some (.ins C dx fs)/\Cls K C/\cf K C f/\fs.lookup f=some v/\Q v H1
def sFld(K:PySem.W.Frag)(ta tv:TE)(f:Str):TS:=fun D σ H=>tv σ H fun y H1=>ta σ H1 fun x H2=>∃a C dx fs,x=.ref a/\H2 a=some (.ins C dx fs)/\Cls K C/\cf K C f/\fs.length<1000 /\
 D.nx σ (upd H2 a (.ins C dx (putF f y fs)))
section
variable {X : Cx} {o e value : Expr} {f : Str} {pos pos' tpos : Pos} {ta tv : TE}
theorem Lc(he:PE X e ta)(hb:attributeBase e f X.env (eval e X.env)=eval e X.env):PE X (.Attribute e f pos) (tFld X.K ta f):=by
 intro pins s σ H Q I h;refine Jg hb (thn (he pins s σ H _ I h) fun u s1 zz46=>?_);obtain⟨x,H1,I1,rx,a,C,dx,fs,v,ex,ea,c,n,l,q⟩:=zz46;subst ex;obtain rfl:u=Value.ref a:=rx;exact D9 I1 ea c n l fun u' s2 I2 ru=>⟨v,H1,I2,ru,q⟩
theorem Ld(ha:PE X o ta)(hv:PE X value tv)(hs:swapsWith value (some (.Attribute o f pos')) pos.line X.env=pure false):PS X (.Assign [.Attribute o f pos'] value pos) (sFld X.K ta tv f):=by
 intro pins s σ H D I h;refine plainObj_wpAny_Assign_Attribute (thn (hv pins s σ H _ I h) fun u s1 zz48=>?_) hs;obtain⟨y,H1,I1,ry,q⟩:=zz48;refine thn (ha pins s1 σ H1 _ I1 q) fun ov s2 zz49=>?_
 obtain⟨x,H2,I2,rx,a,C,dx,fs,ex,ea,c,n,l,q2⟩:=zz49;subst ex;obtain rfl:ov=Value.ref a:=rx;exact Ea I2 ea c n l ry fun s3 I3=>⟨σ,_,I3,q2⟩
end
section
variable {X : Cx} {pins : List (Addr × Obj)} {σ : St} {H : Hp} {s : Shared} {A : Around} {E : Value -> Shared -> Prop} {Q : Value -> Shared -> Prop} {c : Value} {b : Bool}
inductive TyOf (K:PySem.W.Frag) (H:Hp):V->Value->Prop where
 |non:TyOf K H .non (.type "NoneType")
 |bl (x:Bool):TyOf K H (.bl x) (.type "bool")
 |int (i:Int):TyOf K H (.int i) (.type "int")
 |str (x:Str):TyOf K H (.str x) (.type "str")
 |flt (x:UInt64):TyOf K H (.flt x) (.type "float")
 |lst {a:Addr}{xs:List V}(e:H a=some (.lst xs)):TyOf K H (.ref a) (.type "list")
 |frz {a:Addr}{o:Obj}{xs:List V}(e:H a=some (.frz o (.lst xs))):TyOf K H (.ref a) (.type "list")
 |tup {a:Addr}{xs:List V}(e:H a=some (.tup xs)):TyOf K H (.ref a) (.type "tuple")
 |dK {a:Addr}{kvs:List (Key×V)}(e:H a=some (.dK kvs)):TyOf K H (.ref a) (.type "dict")
 |dT {a:Addr}{kvs:List (List Key×V)}(e:H a=some (.dT kvs)):TyOf K H (.ref a) (.type "dict")
 |ins {a C dx:Addr}{fs:List (Str×V)}(e:H a=some (.ins C dx fs)) (cl:Cls K C) (ha:PySem.W.findIn K (.ref C) "__class__" = some (some (.builtin "object.__class__")))
   (hn:PySem.W.specialIn K (.builtin "object.__class__") "__get__" = some (some (.builtin "getset_descriptor.__get__"))) (htk:PySem.W.takesIn K (.builtin "object.__class__")=some true)
   (hm:PySem.W.mroIn K C (.type "object")=some true):TyOf K H (.ref a) (.ref C)
theorem iO{x:V}{u t:Value}(I:Inv X pins σ H s)(rx:RelV x u)(ty:TyOf X.K H x t)(e:PySem.W.kitOne X.K t c=some b)(h:∀tk,Q (.bool b) { s with toks:=tk }):
  wpAny (model X.prog X.w) A (call (.builtin "isinstance") [u,c]) Q E s:=by
 cases ty with
 |non=>cases(show u=Value.none from rx);exact PySem.W.kia_one PySem.W.kitx_none I.kIn True.intro e (fun z=>nomatch z) h
 |bl y=>cases(show u=Value.bool y from rx);exact PySem.W.kia_one PySem.W.kitx_bool I.kIn True.intro e (fun z=>nomatch z) h
 |int i=>obtain⟨t,q⟩:=(show ∃t,u=Value.int i t from rx);cases q;exact PySem.W.kia_one PySem.W.kitx_int I.kIn True.intro e (fun z=>nomatch z) h
 |str y=>obtain⟨t,q⟩:=(show ∃t,u=Value.str y t from rx);cases q;exact PySem.W.kia_one PySem.W.kitx_str I.kIn True.intro e (fun z=>nomatch z) h
 |flt y=>obtain⟨t,q⟩:=(show ∃t,u=Value.float y t from rx);cases q;exact PySem.W.kia_one PySem.W.kitx_float I.kIn True.intro e (fun z=>nomatch z) h
 |@lst a xs ea=>
  cases(show u=Value.ref a from rx);obtain⟨_,_,n,_,h1⟩:=(show aY X.prog X.w H s.heap a (.lst xs) from I.hok a _ ea);exact PySem.W.kia_one PySem.W.kitx_list I.kIn ⟨_,h1,rfl⟩ e (fun z=>nomatch z) h
 |@frz a ob xs ea=>
  cases(show u=Value.ref a from rx);obtain⟨_,_,_,n,_,h1⟩:=(show aY X.prog X.w H s.heap a (.frz ob (.lst xs)) from I.hok a _ ea);exact PySem.W.kia_one PySem.W.kitx_list I.kIn ⟨_,h1,rfl⟩ e (fun z=>nomatch z) h
 |@tup a xs ea=>
  cases(show u=Value.ref a from rx);obtain⟨_,_,_,p⟩:=(show aY X.prog X.w H s.heap a (.tup xs) from I.hok a _ ea);obtain⟨o,h1,h2,_⟩:=p;exact PySem.W.kia_one PySem.W.kitx_tuple I.kIn ⟨o,h1,h2⟩ e (fun z=>nomatch z) h
 |@dK a kvs ea=>
  cases(show u=Value.ref a from rx);obtain⟨_,_,vs,_,p⟩:=(show aY X.prog X.w H s.heap a (.dK kvs) from I.hok a _ ea);obtain⟨o,es,ep,h1,h2,_⟩:=p;exact PySem.W.kia_one PySem.W.kitx_dict I.kIn ⟨o,h1,h2.1⟩ e (fun z=>nomatch z) h
 |@dT a kvs ea=>
  cases(show u=Value.ref a from rx);obtain⟨_,_,xs,_,o,es,ep,h1,h2,_⟩:=(show aY X.prog X.w H s.heap a (.dT kvs) from I.hok a _ ea);exact PySem.W.kia_one PySem.W.kitx_dict I.kIn ⟨o,h1,h2.1⟩ e (fun z=>nomatch z) h
 |@ins a C dx fs ea cl ha hn htk hm=>
  cases(show u=Value.ref a from rx);obtain⟨mA,O,_⟩:=rc I.hok ea;obtain⟨od,J,_⟩:=O.look;exact PySem.W.kia_one (PySem.W.kitx_own (cl.get _) cl.hd ha hn htk hm) I.kIn J e (fun z=>nomatch z) h
end
end L2
namespace L2
open PySem PySem.Spec PyProof.Rows
structure Room (k:Nat) (A:Around):Prop where
 hd:A.handled=none
 dp:A.depth+3*k+5<recursionLimit
 un:A.units+16*k+200<cLine
theorem Room.mono{j k:Nat}{A:Around}(r:Room k A)(h:j<=k):Room j A:=⟨r.hd,by have:=r.dp;omega,by have:=r.un;omega⟩
theorem Room.deeper{k:Nat}{A:Around}(r:Room (k+1) A)(env:Env):Room k (A.deeper env):=
 ⟨r.hd,by have:=r.dp;show A.depth+1+3*k+5<_;omega,by have:=r.un;show A.units+3+16*k+200<_;omega⟩
theorem Eb{A:Around}{C:Addr}{us:List Value}{kw:List (Str×Value)}:(A.under (.builtin "type.__call__" ⟨.ref C::us,kw⟩)).depth=A.depth+1:=by
 first | rfl | simp[Around.under,Code.weight,Code.isCreation,Code.isGuard,Code.isCaller,Code.frames,Code.isFrame,guardIds]
theorem Ec{A:Around}{C:Addr}{us:List Value}{kw:List (Str×Value)}:(A.under (.builtin "type.__call__" ⟨.ref C::us,kw⟩)).units=A.units+1:=by
 first | rfl | simp[Around.under,Code.cUnits,Code.frames,Code.isFrame]
theorem Room.make{k:Nat}{A:Around}(r:Room (k+1) A)(C:Addr)(us:List Value)(kw:List (Str×Value)):Room k (A.under (.builtin "type.__call__" ⟨.ref C::us,kw⟩)):=
 ⟨r.hd,by have:=r.dp;rw[Eb];omega,by have:=r.un;rw[Ec];omega⟩
theorem Room.depth{k:Nat}{A:Around}(r:Room k A):A.depth<recursionLimit:=by have:=r.dp;omega
theorem Room.units{k:Nat}{A:Around}(r:Room k A):A.units+64<cLine:=by have:=r.un;omega
def tNil:TA:=fun _ H Q=>Q [] H
def Mw(ta:TE)(tr:TA):TA:=fun σ H Q=>ta σ H fun x H1=>tr σ H1 fun xs H2=>Q (x::xs) H2
section
variable {X : Cx} {e : Expr} {es : List Expr} {te : TE} {t : TA} {pos : Pos}
theorem Le:PA X [] tNil:=fun _ _ _ _ H Q I h=>Calls.spliced_nil ⟨[],H,I,.nil,h⟩
theorem Jh(ha:PE X e te)(hr:PA X es t)(hs:starEach (e::es) X.env=(false,eval e X.env)::starEach es X.env:=by rfl):PA X (e::es) (Mw te t):=by
 intro pos pins s σ H Q I h;rw[hs];show wpAny _ _ (spliced ((false,eval e X.env)::backTo pos (starEach es X.env))) _ _ s;refine Calls.spliced_cons (thn (ha pins s σ H _ I h) fun u s1 zz54=>?_);obtain⟨x,H1,I1,r1,q1⟩:=zz54;refine thn (hr pos pins s1 σ H1 _ I1 q1) fun us s2 zz55=>?_
 obtain⟨xs,H2,I2,r2,q2⟩:=zz55;exact⟨x::xs,H2,I2,.cons r1 r2,q2⟩
def tTup(t:TA):TE:=fun σ H Q=>t σ H fun xs H1=>xs.length<=sizeLine/\∀p,H1 p=none->Q (.ref p) (upd H1 p (.tup xs))
def tLst(t:TA):TE:=fun σ H Q=>t σ H fun xs H1=>xs.length<=sizeLine/\∀p,H1 p=none->Q (.ref p) (upd H1 p (.lst xs))
theorem Lf{x1}(h:PA X es t):PE X (.Tuple es x1 pos) (tTup t):=by
 intro pins s σ H Q I hq;refine wpAny_Tuple_spliced (thn (h pos pins s σ H _ I hq) fun us s1 ⟨xs,H1,I1,r,z,q⟩=>⟨by rw[←r.length];exact z,?_⟩);have hf:H1 s1.heap.objs.size=none:=I1.hok.fresh (Nat.le_refl _);refine⟨.ref s1.heap.objs.size,upd H1 s1.heap.objs.size (.tup xs),I1.laid (t':=s1.toks) (fun b u e=>Heap.get?_push_of_some _ e) (Nat.le_refl _) ?_,rfl,q _ hf⟩;exact⟨z,us,r,⟨_,Heap.get?_push_size _ rfl,rfl,_,rfl⟩⟩
theorem Lg(h:PA X es t):PE X (.List es pos) (tLst t):=by
 intro pins s σ H Q I hq;refine wpAny_List_spliced (thn (h pos pins s σ H _ I hq) fun us s1 ⟨xs,H1,I1,r,z,q⟩=>⟨by rw[←r.length];exact z,?_⟩);have hf:H1 s1.heap.objs.size=none:=I1.hok.fresh (Nat.le_refl _);refine⟨.ref s1.heap.objs.size,upd H1 s1.heap.objs.size (.lst xs),I1.laid (t':=s1.toks) (fun b u e=>Heap.get?_push_of_some _ e) (Nat.le_refl _) ?_,rfl,q _ hf⟩;exact⟨z,us,0,r,Heap.get?_push_size _ rfl⟩
end
abbrev Sp:=List V->Hp->VK->XK->Prop
abbrev CXT:=List Env->Hp->Shared->XK->Value->Shared->Prop
structure Env0 (P:Program) (w:World) (K:PySem.W.Frag) (mg:Str->Option Value) (base:Heap) (A:Around) (outer:List Env) (s:Shared) (H:Hp):Prop where
 frames:A.frames=some outer
 mod:Mod K mg base
 bs:∀b o,base.get? b=some o->s.heap.get? b=some o/\H b=none
 bsz:base.objs.size<=s.heap.objs.size
 funs:s.heap.FunFrames base outer
 frf:∀b∈frs outer,H b=none
 hok:HOk P w H s.heap
 bare:AllBare s.gens
def CE(outer:List Env)(P:Program)(w:World)(H:Hp)(s:Shared)(Q:VK)(u:Value)(s':Shared):Prop:=
 ∃v H',s'.os=s.os/\AllBare s'.gens/\Un (frs outer) [] H H' s.heap s'.heap/\HOk P w H' s'.heap/\RelV v u/\Q v H'
def CR(CX:CXT)(outer:List Env)(P:Program)(w:World)(H:Hp)(s:Shared)(Q:VK)(E:XK)(r:Result)(s':Shared):Prop:=
 match r with
 |.ok (.ret u)=>CE outer P w H s Q u s'
 |.ok _=>False
 |.error e=>CX outer H s E e s'
structure FnOk (P:Program) (w:World) (K:PySem.W.Frag) (mg:Str->Option Value) (base:Heap) (CX:CXT) (k:Nat) (f:Addr) (fd:FuncData) (ps:List Str) (sp:Sp):Prop where
 len:∀vs H Q E,sp vs H Q E->vs.length=ps.length
 run:∀(A:Around) (outer:List Env) (s:Shared) (H:Hp) (args:Args) (us:List Value) (vs:List V) (Q:VK) (E:XK),Room k A->Env0 P w K mg base A outer s H->BindsTo s fd args (ps.zip us)->Vals vs us->sp vs H Q E ->
  codeAny (model P w) A (.call (.ref f) args) (CR CX outer P w H s Q E) s
theorem Env0.make{P:Program}{w:World}{K:PySem.W.Frag}{mg:Str->Option Value}{base:Heap}{A:Around}{outer:List Env}{s:Shared}{H:Hp}(e:Env0 P w K mg base A outer s H)(C:Addr)(us:List Value)(kw:List (Str×Value)):
  Env0 P w K mg base (A.under (.builtin "type.__call__" ⟨.ref C::us,kw⟩)) outer s H:=⟨by first | exact e.frames | (simpa [Around.under,Code.envs,Code.isFrame,pushEnvs] using e.frames),e.mod,e.bs,e.bsz,e.funs,e.frf,e.hok,e.bare⟩
section
variable {X : Cx} {pins : List (Addr × Obj)} {σ : St} {H : Hp} {s s' : Shared}
theorem Inv.env0(I:Inv X pins σ H s):Env0 X.prog X.w X.K X.mg X.base X.A X.stack s H:=
 ⟨I.ok.frames,I.ok.mod,I.bs,Nat.le_trans I.ok.bsz I.sz,I.stack,I.stkFree,I.hok,I.bare⟩
theorem Inv.after{Q:VK}{u:Value}(I:Inv X pins σ H s)(h:CE X.stack X.prog X.w H s Q u s'):EP X pins σ Q u s':=by
 obtain⟨v,H',os,bare,un,hok,r,q⟩:=h;obtain⟨hh,g,d,t,os'⟩:=s';obtain rfl:os'=s.os:=os;exact⟨v,H',I.call (h':=hh) (g':=g) (d':=d) (t':=t) (ch:=[]) un hok bare (fun b z=>absurd z (by simp)),r,q⟩
end
def IB(sp:Sp)(dvs:List V)(E:XK)(t:TA):TE:=fun σ H Q=>t σ H fun vs H1=>sp (vs++dvs) H1 Q E
def Mx(C:Addr)(sp:Sp)(dvs:List V)(E:XK)(t:TA):TE:=fun σ H Q=>t σ H fun vs H1=>∀x dx,H1 x=none->H1 dx=none->dx≠x ->
 sp (.ref x::(vs++dvs)) (upd (upd H1 dx (.own x)) x (.ins C dx [])) (fun v H2=>v=.non/\Q (.ref x) H2) E
def Binds(K:PySem.W.Frag)(fd:FuncData)(ps:List Str)(ds:List Value):Prop:=
 ∀(s:Shared) (us:List Value),K.In s.heap->(us++ds).length=ps.length->BindsTo s fd ⟨us,[]⟩ (ps.zip (us++ds))
theorem Binds.all{K:PySem.W.Frag}{fd:FuncData}{ps:List Str}(h:∀us:List Value,us.length=ps.length->bindArgs fd ⟨us,[]⟩=pure (ps.zip us)):Binds K fd ps []:=fun s us _ hl=>by
 rw[List.append_nil] at hl ⊢;exact .of_eq (h us hl)
def qa(CX:CXT)(X:Cx)(E:XK):Prop:=∀(pins:List (Addr×Obj)) (σ:St) (H:Hp) (s:Shared) (e:Value) (s':Shared),Inv X pins σ H s->CX X.stack H s E e s'->X.xe e s'
section
variable {X : Cx} {CX : CXT} {k : Nat} {f C : Addr} {fd : FuncData} {ps : List Str} {sp : Sp} {dvs : List V} {ds : List Value} {E : XK} {x m : Str} {p pos apos : Pos} {e o : Expr} {es : List Expr} {ta : TE} {t : TA}
theorem zF{pins:List (Addr×Obj)}{σ:St}{H:Hp}{s:Shared}{Q:VK}{us:List Value}{vs:List V}(F:FnOk X.prog X.w X.K X.mg X.base CX k f fd ps sp)(hr:Room k X.A)(hb:Binds X.K fd ps ds)(hd:Vals dvs ds)(hx:qa CX X E)
  (I:Inv X pins σ H s) (r:Vals vs us) (h:sp (vs++dvs) H Q E):wpAny (model X.prog X.w) X.A (call (.ref f) us) (EP X pins σ Q) X.xe s:=by
 have r2:Vals (vs++dvs) (us++ds):=r.append hd;have hl:(us++ds).length=ps.length:=by rw[←r2.length];exact F.len _ _ _ _ h
 refine wpAny_call (codeAny_mono (F.run X.A X.stack s H ⟨us,[]⟩ (us++ds) (vs++dvs) Q E hr I.env0 (hb s us I.kIn hl) r2 h) fun r s' hq=>?_);cases r with
 |error e=>exact hx pins σ H s e s' I hq
 |ok fl=>
  cases fl with
  |ret u=>exact I.after hq
  |next=>exact False.elim hq
  |brk=>exact False.elim hq
  |cont=>exact False.elim hq
theorem Ji(F:FnOk X.prog X.w X.K X.mg X.base CX k f fd ps sp)(hr:Room k X.A)(hg:Gl X x)(hm:X.mg x=some (.ref f))(hk:PySem.W.keepIn X.K (.ref f)=true)(hb:Binds X.K fd ps ds)(hd:Vals dvs ds)(hx:qa CX X E)
  (ha:PA X (e::es) t) (hdb:(x==("__debug__" : Str))=false:=by decide) (he:starEach (e::es) X.env=(false,eval e X.env)::starEach es X.env:=by rfl) (hpl:(backTo pos (starEach es X.env)).any (·.1)=false:=by rfl):
  PE X (.Call (.Name x p) (e::es) [] pos) (IB sp dvs E t):=by
 intro pins s σ H Q I h;refine wpAny_Call_Name_kw (wQ I hg hm ?_ hdb);refine PySem.W.callWith_K (h₀:=X.base) I.ok.mod.kin hk (thn (ha pos pins s σ H _ I h) fun us s1 zz56=>?_) he hpl;obtain⟨vs,H1,I1,r,q⟩:=zz56;refine⟨I1.kIn,?_⟩;exact zF F hr hb hd hx I1 r q
structure Mk (K:PySem.W.Frag) (C f:Addr):Prop where
 makes:PySem.W.makesIn K C=true
 init:PySem.W.findIn K (.ref C) "__init__" = some (some (.ref f))
 fn:PySem.W.isFn K (.ref f)=true
 kp:PySem.W.keepIn K (.ref C)=true
theorem G6{pins:List (Addr×Obj)}{σ:St}{H:Hp}{s:Shared}{Q:VK}{us:List Value}{vs:List V}(M:Mk X.K C f)(F:FnOk X.prog X.w X.K X.mg X.base CX k f fd ps sp)(hr:Room (k+1) X.A)(hb:Binds X.K fd ps ds)(hd:Vals dvs ds)
  (hx:qa CX X E) (I:Inv X pins σ H s) (r:Vals vs us)
  (h:∀x dx,H x=none->H dx=none->dx≠x->sp (.ref x::(vs++dvs)) (upd (upd H dx (.own x)) x (.ins C dx [])) (fun v H2=>v=.non/\Q (.ref x) H2) E):
  wpAny (model X.prog X.w) X.A (call (.ref C) us) (EP X pins σ Q) X.xe s:=by
 have hq:=h (s.heap.objs.size+1) s.heap.objs.size (I.hok.fresh (Nat.le_succ _)) (I.hok.fresh (Nat.le_refl _)) (Nat.ne_of_lt (Nat.lt_succ_self _));have I2:=Inv.made (C:=C) I;have r2:Vals (V.ref (s.heap.objs.size+1)::(vs++dvs)) (Value.ref (s.heap.objs.size+1)::(us++ds)):=.cons rfl (r.append hd);have hl:(Value.ref (s.heap.objs.size+1)::us++ds).length=ps.length:=by
  have e:=r2.length;rw[F.len _ _ _ _ hq] at e;exact e.symm
 refine wpAny_call (G5 (f:=f) I.kIn M.makes M.init (beq_iff_eq.mp M.fn) (codeAny_mono (F.run _ X.stack _ _ ⟨Value.ref (s.heap.objs.size+1)::us,[]⟩ (Value.ref (s.heap.objs.size+1)::(us++ds)) _ _ E (hr.make C us [])
  (I2.env0.make C us []) (hb _ (Value.ref (s.heap.objs.size+1)::us) I2.kIn hl) r2 hq) fun r s' hq'=>?_))
 cases r with
 |error e=>exact hx pins σ _ _ e s' I2 hq'
 |ok fl=>
  cases fl with
  |ret u=>
   obtain⟨v,H',I3,rv,ev,q3⟩:=I2.after hq';subst ev;exact⟨rv,⟨V.ref (s.heap.objs.size+1),H',I3,rfl,q3⟩⟩
  |next=>exact False.elim hq'
  |brk=>exact False.elim hq'
  |cont=>exact False.elim hq'
theorem Jj(M:Mk X.K C f)(F:FnOk X.prog X.w X.K X.mg X.base CX k f fd ps sp)(hr:Room (k+1) X.A)(hg:Gl X x)(hm:X.mg x=some (.ref C))(hb:Binds X.K fd ps ds)(hd:Vals dvs ds)(hx:qa CX X E)
  (ha:PA X (e::es) t) (hdb:(x==("__debug__" : Str))=false:=by decide) (he:starEach (e::es) X.env=(false,eval e X.env)::starEach es X.env:=by rfl) (hpl:(backTo pos (starEach es X.env)).any (·.1)=false:=by rfl):
  PE X (.Call (.Name x p) (e::es) [] pos) (Mx C sp dvs E t):=by
 intro pins s σ H Q I h;refine wpAny_Call_Name_kw (wQ I hg hm ?_ hdb);refine PySem.W.callWith_K (h₀:=X.base) I.ok.mod.kin M.kp (thn (ha pos pins s σ H _ I h) fun us s1 zz60=>?_) he hpl;obtain⟨vs,H1,I1,r,q⟩:=zz60;refine⟨I1.kIn,?_⟩;exact G6 M F hr hb hd hx I1 r q
end
section
variable {X : Cx} {CX : CXT} {k : Nat} {f C : Addr} {fd : FuncData} {ps ks : List Str} {sp : Sp} {E : XK} {x m : Str} {p pos apos kpos : Pos} {e o : Expr} {es : List Expr} {kws : List Keyword} {te ta : TE} {t tk : TA} {nm : Option Str}
structure KBinds (K:PySem.W.Frag) (fd:FuncData) (ps ks:List Str) (g:List Value->List Value->List Value) (gV:List V->List V->List V):Prop where
 to:∀(s:Shared) (us ws:List Value),K.In s.heap->(g us ws).length=ps.length->BindsTo s fd ⟨us,ks.zip ws⟩ (ps.zip (g us ws))
 rel:∀{vs:List V}{us:List Value}{zs:List V}{ws:List Value},Vals vs us->Vals zs ws->Vals (gV vs zs) (g us ws)
variable {g : List Value -> List Value -> List Value} {gV : List V -> List V -> List V}
end
structure FnScope (N P:List Str) (sc:Scope):Prop where
 kind:sc.kind=.function
 co:sc.isCoroutine=false
 gen:sc.isGenerator=false
 nd:N.Nodup
 pre:N.take P.length=P
 par:∀x∈P,sc.names.lookup x=some .local \/ sc.names.lookup x=some .cell
 nofree:∀y∈sc.names,y.2≠.free
theorem xT{kindOf:Str->Option NameKind}{x:Str}:∀{binds:List (Str×Value)}{m:Str->Option Value},(∀v,(x,v)∉binds)->bindL kindOf binds m x=m x
 |[],_,_=>rfl
 |(n,v)::r,m,h=>by
  unfold bindL;rw[xT fun w hw=>h w (List.mem_cons_of_mem _ hw)];split
  ·have:x≠n:=by rintro rfl;exact h v List.mem_cons_self
   simp[this]
  ·rfl
theorem xU{kindOf:Str->Option NameKind}{x:Str}:∀{binds:List (Str×Value)}{m:Str->Option Value},(∀v,(x,v)∉binds)->bindC kindOf binds m x=m x
 |[],_,_=>rfl
 |(n,v)::r,m,h=>by
  unfold bindC;rw[xU fun w hw=>h w (List.mem_cons_of_mem _ hw)];split
  ·rfl
  ·have:x≠n:=by rintro rfl;exact h v List.mem_cons_self
   simp[this]
theorem xV{kindOf:Str->Option NameKind}{x:Str}{v:Value}:∀{P:List Str}{vs:List Value}{i:Nat}{m:Str->Option Value},P.Nodup->P[i]?=some x->vs[i]?=some v->kindOf x=some .local ->
  bindL kindOf (P.zip vs) m x=some v
 |[],_,_,_,_,h,_,_=>by simp at h
 |_::_,[],_,_,_,_,h,_=>by simp at h
 |p::P,w::vs,0,m,nd,h1,h2,hk=>by
  simp at h1 h2;subst h1;subst h2;show bindL kindOf ((p,w)::P.zip vs) m p=_;unfold bindL;rw[xT fun v hv=>(List.nodup_cons.mp nd).1 (List.of_mem_zip hv).1,if_pos hk];simp
 |p::P,w::vs,i+1,m,nd,h1,h2,hk=>by
  show bindL kindOf ((p,w)::P.zip vs) m x=_;unfold bindL;exact xV (i:=i) (List.nodup_cons.mp nd).2 (by simpa using h1) (by simpa using h2) hk
theorem xX{kindOf:Str->Option NameKind}{x:Str}{v:Value}:∀{P:List Str}{vs:List Value}{i:Nat}{m:Str->Option Value},P.Nodup->P[i]?=some x->vs[i]?=some v->kindOf x≠some .local ->
  bindC kindOf (P.zip vs) m x=some v
 |[],_,_,_,_,h,_,_=>by simp at h
 |_::_,[],_,_,_,_,h,_=>by simp at h
 |p::P,w::vs,0,m,nd,h1,h2,hk=>by
  simp at h1 h2;subst h1;subst h2;show bindC kindOf ((p,w)::P.zip vs) m p=_;unfold bindC;rw[xU fun v hv=>(List.nodup_cons.mp nd).1 (List.of_mem_zip hv).1,if_neg hk];simp
 |p::P,w::vs,i+1,m,nd,h1,h2,hk=>by
  show bindC kindOf ((p,w)::P.zip vs) m x=_;unfold bindC;exact xX (i:=i) (List.nodup_cons.mp nd).2 (by simpa using h1) (by simpa using h2) hk
def start(N:List Str)(vs:List V):St:=vs.map some++List.replicate (N.length-vs.length) none
def cxOf(CX:CXT)(P:Program)(w:World)(K:PySem.W.Frag)(mg:Str->Option Value)(base:Heap)(N:List Str)(qual:Str)(scope:Scope)(f:Addr)(cd:Value)(A:Around)(outer:List Env)(s:Shared)(H:Hp)(E:XK):Cx where
 prog:=P
 w:=w
 K:=K
 mg:=mg
 base:=base
 A:=A.deeper (envOfC qual scope s.heap.objs.size f cd)
 N:=N
 s₀:=s
 H₀:=H
 env:=envOfC qual scope s.heap.objs.size f cd
 outer:=outer
 stack:=envOfC qual scope s.heap.objs.size f cd::outer
 ex:=[]
 calm:=true
 fn:=fun _=>true
 pn:=[]
 xe:=fun e s'=>wpAny (model P w) (A.deeper (envOfC qual scope s.heap.objs.size f cd)) (leaving (envOfC qual scope s.heap.objs.size f cd) e) (fun _ s''=>CX outer H s E e s'') (fun e' s''=>CX outer H s E e' s'') s'
theorem zG{sc:Scope}{n:Nat}{x:Str}(h:sc.names.lookup x=some .cell):∃c,(cellsFrom n sc.names []).lookup x=some c:=by
 have q:=PySem.W.cellsFrom_some sc.names n [] (.inl h);exact Option.isSome_iff_exists.mp q
theorem Fx{CX:CXT}{P:Program}{w:World}{K:PySem.W.Frag}{mg:Str->Option Value}{base:Heap}{N ps:List Str}{qual:Str}{scope:Scope}{f:Addr}{cd:Value}{A:Around}{outer:List Env}{s s1:Shared}{H:Hp}{E:XK}{us:List Value}{vs:List V}
  (S:FnScope N ps scope) (hd:A.handled=none) (e0:Env0 P w K mg base A outer s H) (hl:vs.length=ps.length) (r:Vals vs us)
  (x:InCallC s s.heap.objs.size (bindL (envOfC qual scope s.heap.objs.size f cd).kindOf (ps.zip us) fun _=>none) (cellsFrom (s.heap.objs.size+1) scope.names []) (bindC (envOfC qual scope s.heap.objs.size f cd).kindOf (ps.zip us) fun _=>none) s1):
  Inv (cxOf CX P w K mg base N qual scope f cd A outer s H E) [] (start N vs) H s1:=by
 have hpl:ps.length<=N.length:=by have:=congrArg List.length S.pre;rw[List.length_take] at this;omega
 obtain⟨h1,tk,rfl,hk⟩:=x.done;have noA:∀b:Addr,b∉(cxOf CX P w K mg base N qual scope f cd A outer s H E).ex:=fun b z=>absurd (show b∈([]:List Addr) from z) (by simp)
 refine⟨⟨e0.mod,S.kind,rfl,rfl,Nat.le_refl _,fun y z c h1 h2=>?_,fun y hy=>?_,fun y c _ h=>?_,fun _=>hd,Around.frames_deeper e0.frames,.inr ⟨rfl,rfl⟩,fun b z=>absurd z (noA b),e0.bs,e0.bsz,fun b _ _=>noA b,fun b z=>absurd z (noA b),e0.funs,e0.frf⟩,
  rfl,e0.bare,Un.kept hk,⟨_,x.toInCall.ns,fun i y v h1 h2 h3=>?_⟩,fun y c h=>⟨_,x.cell y c h⟩,e0.hok.fresh (Nat.le_refl _),fun y c h=>?_,fun p hp=>absurd (show p∈([]:List (Addr×Obj)) from hp) (by simp),e0.hok.kept hk,?_⟩
 ·exact name_of_addr x.apart (PySem.mem_of_lookup h1) (PySem.mem_of_lookup h2)
 ·have hy:scope.names.lookup y=some .cell\/scope.names.lookup y=some .free:=hy
  rcases hy with hy | hy
  ·exact zG hy
  ·exact absurd rfl (S.nofree _ (PySem.mem_of_lookup hy))
 ·exact Nat.le_of_lt (x.above y c (PySem.mem_of_lookup h))
 ·have hi:i<vs.length:=by
   unfold start at h2;by_cases hi:i<vs.length
   ·exact hi
   ·rw[List.getElem?_append_right (by simpa using hi)] at h2
    rw[List.getElem?_replicate] at h2;split at h2<;>cases h2
  have ha:vs[i]?=some v:=by
   unfold start at h2;rw[List.getElem?_append_left (by simpa using hi),List.getElem?_map] at h2;cases e:vs[i]? with
   |none=>rw[e] at h2;cases h2
   |some a=>rw[e] at h2;cases h2;rfl
  obtain⟨u,hu,rv⟩:=r.get ha;have hp:ps[i]?=some y:=by
   rw[←S.pre,List.getElem?_take_of_lt (by omega)];exact h1
  have ndP:ps.Nodup:=by rw[←S.pre];exact S.nd.sublist (List.take_sublist _ _)
  refine⟨u,rv,?_⟩;rcases S.par y (List.mem_of_getElem? hp) with k | k
  ·exact .inl ⟨k,xV ndP hp hu k⟩
  ·obtain⟨c,e⟩:=zG (n:=s.heap.objs.size+1) k
   refine .inr ⟨.inl k,c,e,?_⟩;have q:=x.cell y c e;rw[xX ndP hp hu (by show scope.names.lookup y≠_;rw[k];decide)] at q;exact q
 ·exact e0.hok.fresh (Nat.le_of_lt (x.above y c (PySem.mem_of_lookup h)))
 ·unfold start
  show _=N.length;rw[List.length_append,List.length_map,List.length_replicate];omega
theorem My{CX:CXT}{P:Program}{w:World}{K:PySem.W.Frag}{mg:Str->Option Value}{base:Heap}{k:Nat}{f:Addr}{name qual:Str}{params:Arguments}{body:List Stmt}{scope:Scope}{dV kV doc pm cdv ct oc:Value}{an od:Option Addr}
  {osl:Array (Option Value)}{N ps:List Str}{sp:Sp}(lk:K.lookup f=some ⟨oc,od,.func (PySem.W.fnOf name qual params body scope dV kV doc pm an cdv ct),osl⟩) (hcd:PySem.W.codeIn K cdv qual=true) (S:FnScope N ps scope)
  (len:∀vs H Q E,sp vs H Q E->vs.length=ps.length)
  (hbody:∀(A:Around) (outer:List Env) (s:Shared) (H:Hp) (vs:List V) (Q:VK) (E:XK),Room k (A.deeper (envOfC qual scope s.heap.objs.size f cdv))->sp vs H Q E ->
   ∃t,PSs (cxOf CX P w K mg base N qual scope f cdv A outer s H E) body t/\t { nx:=fun _ H'=>Q .non H',rt:=Q } (start N vs) H):
  FnOk P w K mg base CX (k+1) f (PySem.W.fnOf name qual params body scope dV kV doc pm an cdv ct) ps sp:=by
 refine⟨len,fun A outer s H args us vs Q E hr e0 hb r hsp=>?_⟩;have hl:=len _ _ _ _ hsp;have KX:K.In s.heap:=e0.mod.kin.keeps fun b o e=>(e0.bs b o e).1
 have lim:s.heap.NoLimit:=e0.mod.nolimit.keeps fun b o e=>(e0.bs b o e).1
 have hkind:∀y∈ps.zip us,scope.names.lookup y.1=some .local \/ (scope.names.lookup y.1=some .cell/\((cellsFrom (s.heap.objs.size+1) scope.names []).lookup y.1).isSome=true):=fun⟨n,v⟩ hy=>by
  rcases S.par n (List.of_mem_zip hy).1 with q | q
  ·exact .inl q
  ·exact .inr ⟨q,PySem.W.cellsFrom_some _ _ _ (.inl q)⟩
 refine codeAny_call_function hr.depth (KX _ _ lk) rfl S.co S.gen rfl (PySem.W.codeRec_of KX hcd) (hb _ _ _ _ ?_);refine wpAny_newFunctionEnv_cells S.kind hkind fun env he s1 x=>?_
 subst he;refine⟨lim.keeps x.toInCall.keep,codeAny_func ?_⟩;obtain⟨t,ht,hq⟩:=hbody A outer s H vs Q E (hr.deeper _) hsp;have I:Inv (cxOf CX P w K mg base N qual scope f cdv A outer s H E) [] (start N vs) H s1:=Fx S hr.hd e0 hl r x;refine wpAny_mono (ht [] s1 (start N vs) H _ I hq) (fun fl s' hs=>?_) fun e s' hs=>hs
 have fin:∀{σ':St}{H':Hp}{v:V}{u:Value},Inv (cxOf CX P w K mg base N qual scope f cdv A outer s H E) [] σ' H' s'->RelV v u->Q v H'->CE outer P w H s Q u s':=
  fun {σ' H' v u} J rv q=>⟨v,H',J.os,J.bare,J.base,J.hok,rv,q⟩
 cases fl with
 |ret u=>
  obtain⟨v,σ',H',J,rv,q⟩:=hs;exact fin J rv q
 |next=>
  obtain⟨σ',H',J,q⟩:=hs;exact fin (v:=V.non) (u:=Value.none) J rfl q
 |brk=>
  obtain⟨_,_,_,q⟩:=hs;exact False.elim q
 |cont=>
  obtain⟨_,_,_,q⟩:=hs;exact False.elim q
end L2
namespace L2
open PySem PySem.Spec PyProof.Rows
section
variable {X : Cx} {x : Str} {p pos : Pos} {e : Expr} {es : List Expr} {t : TA} {id T : String} {r : List V -> Hp -> VK -> Prop}
def tCB(r:List V->Hp->VK->Prop)(t:TA):TE:=fun σ H Q=>t σ H fun vs H1=>r vs H1 Q
theorem G7(hc:gm X (.builtin id) r)(hg:Gl X x)(hm:X.mg x=none)(hv:bootBuiltins x=some (.builtin id))(ha:PA X (e::es) t)(hn:x ≠ "__name__":=by decide)(hdb:(x==("__debug__" : Str))=false:=by decide)
  (he:starEach (e::es) X.env=(false,eval e X.env)::starEach es X.env:=by rfl) (hpl:(backTo pos (starEach es X.env)).any (·.1)=false:=by rfl):PE X (.Call (.Name x p) (e::es) [] pos) (tCB r t):=by
 intro pins s σ H Q I h;refine wpAny_Call_Name_kw (fL I hg hm hv ?_ hn hdb);refine PyProof.Rows.callWith_builtin1 (thn (ha pos pins s σ H _ I h) fun us s1 zz65=>?_) he hpl;obtain⟨vs,H1,I1,r1,q1⟩:=zz65;exact hc pins s1 σ H1 vs us Q I1 r1 q1
theorem Fy(hc:gm X (.type T) r)(hg:Gl X x)(hm:X.mg x=none)(hv:bootBuiltins x=some (.type T))(ha:PA X (e::es) t)(hn:x ≠ "__name__":=by decide)(hdb:(x==("__debug__" : Str))=false:=by decide)
  (he:starEach (e::es) X.env=(false,eval e X.env)::starEach es X.env:=by rfl) (hpl:(backTo pos (starEach es X.env)).any (·.1)=false:=by rfl):PE X (.Call (.Name x p) (e::es) [] pos) (tCB r t):=by
 intro pins s σ H Q I h;refine wpAny_Call_Name_kw (fL I hg hm hv ?_ hn hdb);refine PyProof.Rows.callWith_type1 (thn (ha pos pins s σ H _ I h) fun us s1 zz66=>?_) he hpl;obtain⟨vs,H1,I1,r1,q1⟩:=zz66;exact hc pins s1 σ H1 vs us Q I1 r1 q1
end
end L2
namespace HT
open PySem PyProof.Rows
section
open PySem.SeqAt
open PySem.AutoSeq1 (wpAny_loadPart')
open PySem.MeetsSeq PySem.MeetsSeq2 PySem.MeetsSeq3
end
section
variable {prog : Program} {w : World} {A : Around} {E : Value -> Shared -> Prop} {s : Shared}
theorem Jk{t b:Addr}{vs ws:List Value}{Q:Value->Shared->Prop}(ht:IsTup s.heap t vs.toArray)(hb:IsTup s.heap b ws.toArray)(hv:vs≠[])
  (h1:ws=[]->Q (.ref t) s) (h2:ws≠[]->Q (.ref s.heap.objs.size) { s with heap:=s.heap.push { cls:=.type "tuple",data:=.seq (vs++ws).toArray } })
  (hsz:vs.length+ws.length<=sizeLine):wpAny (model prog w) A (binaryOp .Add (.ref t) (.ref b)) Q E s:=by
 obtain⟨⟨cls,dd,data,sl⟩,ho,hc,n,hd⟩:=id ht;obtain⟨⟨cls2,dd2,data2,sl2⟩,ho2,hc2,n2,hd2⟩:=id hb;simp only at hc hd hc2 hd2;subst hc hd hc2 hd2;have e:vs.toArray++ws.toArray=(vs++ws).toArray:=by simp
 by_cases hw:ws=[]
 ·exact concat_meets ⟨_,ho,rfl⟩ ⟨_,ho2,rfl⟩ noFill_tuple_add seq_tuple_add PySem.F.slot_tuple_add PySem.F.entry_tuple_add (PySem.F.args_tuple_add_2 _ _)
   (tuple_addW1 t b vs.toArray ws.toArray n n2 dd dd2 sl sl2 (by simpa using hv) (by simp[hw])) ⟨ho,ho2,h1 hw⟩
 ·refine concat_meets ⟨_,ho,rfl⟩ ⟨_,ho2,rfl⟩ noFill_tuple_add seq_tuple_add PySem.F.slot_tuple_add PySem.F.entry_tuple_add (PySem.F.args_tuple_add_2 _ _)
   (tuple_addW2 t b vs.toArray ws.toArray n n2 dd dd2 sl sl2 (by simpa using hv) (by simpa using hw) (by rw[List.size_toArray,List.size_toArray];exact hsz)) ⟨ho,ho2,?_⟩
  rw[e];exact h2 hw
def sIx(n d:Nat):Option Int->Nat
 |none=>d
 |some v=>if v<0 then(v+(n:Int)).toNat else min v.toNat n
theorem G9(n d:Nat):sIx n d none=d:=rfl
theorem wR(n d k:Nat):sIx n d (some (k:Int))=min k n:=by
 show(if(k:Int)<0 then((k:Int)+(n:Int)).toNat else min (k:Int).toNat n)=min k n;rw[if_neg (by omega),Int.toNat_natCast]
theorem Lh(n d:Nat)(hd:d<=n)(o:Option Int):sIx n d o<=n:=by
 cases o with
 |none=>exact hd
 |some v=>
  show(if v<0 then(v+(n:Int)).toNat else min v.toNat n)<=n;by_cases hv:v<0
  ·rw[if_pos hv];omega
  ·rw[if_neg hv];exact Nat.min_le_right _ _
theorem Do(v:Int)(n d:Nat):(if v<0 then max (v+(n:Int)) 0 else min v (n:Int))=((sIx n d (some v):Nat):Int):=by
 show(if v<0 then max (v+(n:Int)) 0 else min v (n:Int))=(((if v<0 then(v+(n:Int)).toNat else min v.toNat n):Nat):Int);by_cases hv:v<0
 ·simp only[if_pos hv];omega
 ·simp only[if_neg hv];omega
theorem Ed(lo hi:Option Int)(n:Nat):Builtin.Slice.sliceAdjust lo hi 1 (n:Int)=(((sIx n 0 lo:Nat):Int),((sIx n n hi:Nat):Int)):=by
 have h1:¬((1:Int)<0):=by omega
 unfold Builtin.Slice.sliceAdjust;simp only[h1,if_false];refine Prod.ext ?_ ?_
 ·cases lo with
  |none=>rfl
  |some v=>exact Do v n 0
 ·cases hi with
  |none=>rfl
  |some v=>exact Do v n n
theorem Ee(i j:Nat):Builtin.Slice.slicePlaces (i:Int) (j:Int) 1=j-i:=by
 unfold Builtin.Slice.slicePlaces;have h1:(1:Int)>0:=by omega
 simp only[h1,if_true,Int.ediv_one];split<;>omega
theorem uk{v:Value}{o:Option Int}{Q:Option Int->Shared->Prop}(p:IsPart v o)(h:Q o s):wpAny (model prog w) A (Builtin.Slice.slicePartIndex v) Q E s:=by
 cases p with
 |none=>exact slicePart_none h
 |int i t=>exact slicePart_int h
theorem lW{sl:Addr}{vl vu:Value}{lo hi:Option Int}{n:Nat}{Q:Int×Int×Nat->Shared->Prop}(hs:s.heap.IsSliceOf sl vl vu .none)(pl:IsPart vl lo)(pu:IsPart vu hi)
  (h:Q (((sIx n 0 lo:Nat):Int),1,sIx n n hi-sIx n 0 lo) s):wpAny (model prog w) A (Builtin.Slice.sliceApplied (.ref sl) (pure (n:Int))) Q E s:=by
 obtain⟨os,hos,hcs,hds⟩:=id hs;unfold Builtin.Slice.sliceApplied Builtin.Slice.sliceFields;refine wpAny_bind (wpAny_bind (wpAny_field hos hds (x:=vl) rfl (wpAny_bind (wpAny_field hos hds (x:=vu) rfl (wpAny_bind (wpAny_field hos hds (x:=.none) rfl (wpAny_pure ?_)))))));refine wpAny_bind (slicePart_none ?_);show wpAny _ _ (if((1:Int)==0)=true then _ else _) _ _ s;rw[if_neg (by decide)];refine wpAny_bind (uk pl (wpAny_bind (uk pu (wpAny_bind (wpAny_pure ?_)))));show wpAny _ _ (match Builtin.Slice.sliceAdjust lo hi 1 (n:Int) with | (lo,hi)=>pure (lo,(1:Int),Builtin.Slice.slicePlaces lo hi 1)) _ _ s;rw[Ed lo hi n];show wpAny _ _ (pure (((sIx n 0 lo:Nat):Int),(1:Int),Builtin.Slice.slicePlaces ((sIx n 0 lo:Nat):Int) ((sIx n n hi:Nat):Int) 1)) _ _ s;rw[Ee];exact wpAny_pure h
theorem Ha(xs:Array Value)(i k:Nat):((List.range k).filterMap fun(m:Nat)=>xs[((i:Int)+(m:Int)*1).toNat]?).toArray=((xs.toList.drop i).take k).toArray:=by
 have e:(fun(m:Nat)=>xs[((i:Int)+(m:Int)*1).toNat]?)=fun m=>xs[i+m]?:=by
  funext m;have:((i:Int)+(m:Int)*1).toNat=i+m:=by omega
  rw[this]
 rw[e]
 have:=pick_run xs i k
 rw[List.filterMap_map] at this;have e2:((fun x=>xs[x]?)∘fun x=>i+x)=fun m=>xs[i+m]?:=rfl
 rw[e2] at this;rw[this]
theorem rV{t sl:Addr}{items:Array Value}{vl vu:Value}{lo hi:Option Int}{Q:Value->Shared->Prop}(ht:IsTup s.heap t items)(hs:s.heap.IsSliceOf sl vl vu .none)(pl:IsPart vl lo)(pu:IsPart vu hi)
  (hw:¬(sIx items.size 0 lo=0/\sIx items.size items.size hi=items.size))
  (h:Q (.ref s.heap.objs.size) { s with heap:=s.heap.push { cls:=.type "tuple",data:=.seq ((items.toList.drop (sIx items.size 0 lo)).take (sIx items.size items.size hi-sIx items.size 0 lo)).toArray } })
  (hsz:items.size<=sizeLine):wpAny (model prog w) A (getItem (.ref t) (.ref sl)) Q E s:=by
 have htake:sizeOk (.seq ((items.toList.drop (sIx items.size 0 lo)).take (sIx items.size items.size hi-sIx items.size 0 lo)).toArray):=by
  show((items.toList.drop (sIx items.size 0 lo)).take (sIx items.size items.size hi-sIx items.size 0 lo)).toArray.size<=sizeLine;rw[List.size_toArray,List.length_take,List.length_drop,Array.length_toList];omega
 have hj:sIx items.size items.size hi<=items.size:=Lh _ _ (Nat.le_refl _) hi;obtain⟨os,hos,hcs,hds⟩:=id hs;have hTs:s.TypeIs (.ref sl) "slice":=⟨os,hos,hcs⟩;unfold getItem;try with_reducible refine wpAny_holding ?_
 first | refine wpAny_bind (wpAny_pure ?_) | skip
 refine wpAny_bind (wpAny_sequenceKey ht.typeIs (by decide) ?_);refine wpAny_bind (wpAny_callSpecial?_slot (name:=Str.ofString "__getitem__") ht.typeIs PyProof.Rows.slot_tuple_getitem
  (wpAny_call_entry PyProof.Rows.slot_tuple_getitem ht.typeIs entry_tuple_getitem ?_ (args_tuple_getitem _ _)))
 show wpAny _ _ (Builtin.Tuple.tupleItemsOf (.ref t) >>= _) _ _ s;refine wpAny_bind (tupleItemsOf_ ht ?_);refine wpAny_bind (wpAny_typeOf hTs ?_);rw[if_pos (by decide)];refine wpAny_bind (lW hs pl pu ?_);have hno:¬((((sIx items.size 0 lo:Nat):Int)==0&&(1:Int)==1&&(sIx items.size items.size hi-sIx items.size 0 lo)==items.size)=true):=by
  intro q;rw[Bool.and_eq_true,Bool.and_eq_true] at q;have q1:((sIx items.size 0 lo:Nat):Int)=0:=eq_of_beq q.1.1;have q2:sIx items.size items.size hi-sIx items.size 0 lo=items.size:=eq_of_beq q.2;exact hw ⟨by omega,by omega⟩
 show wpAny _ _ (if(((sIx items.size 0 lo:Nat):Int)==0&&(1:Int)==1&&(sIx items.size items.size hi-sIx items.size 0 lo)==items.size)=true then _ else _) _ _ s;rw[if_neg hno,Ha];first
  |exact wpAny_bind (m:=Builtin.Tuple.tupleExact _) (wpAny_newObj_type (wpAny_pure ⟨_,rfl,wpAny_pure h⟩) htake)
  |exact wpAny_bind (m:=Builtin.Tuple.tupleExact _) (wpAny_newObj_type (wpAny_bind (wpAny_pure (wpAny_pure ⟨_,rfl,wpAny_pure h⟩))) htake)
  |exact wpAny_bind (wpAny_bind (m:=Builtin.Tuple.tupleExact _) (wpAny_newObj_type (wpAny_pure (wpAny_pure ⟨_,rfl,wpAny_pure h⟩)) htake))
  |exact wpAny_bind (wpAny_bind (m:=Builtin.Tuple.tupleExact _) (wpAny_newObj_type (wpAny_pure ⟨_,rfl,wpAny_pure h⟩) htake))
end
end HT
namespace L2
open PySem PySem.Spec PyProof.Rows
abbrev TO:=St->Hp->(Option Int->Hp->Prop)->Prop
def PO(X:Cx)(e:Option Expr)(t:TO):Prop:=
 ∀(pins:List (Addr×Obj)) (s:Shared) (σ:St) (H:Hp) (Q:Option Int->Hp->Prop),Inv X pins σ H s->t σ H Q ->
  wpAny (model X.prog X.w) X.A (evalPart e X.env) (fun u s'=>∃o H',Inv X pins σ H' s'/\IsPart u o/\Q o H') X.xe s
def Jl:TO:=fun _ H Q=>Q none H
def Mz(t:TE):TO:=fun σ H Q=>t σ H fun x H1=>∃i,x=.int i/\Q (some i) H1
section
variable {X : Cx} {e : Expr} {te : TE} {lo hi : Option Expr} {tl th : TO} {pos p2 : Pos}
theorem Jm:PO X none Jl:=by
 intro pins s σ H Q I h;rw[evalPart_none];exact wpAny_pure ⟨none,H,I,.none,h⟩
theorem Jn(h:PE X e te):PO X (some e) (Mz te):=by
 intro pins s σ H Q I hw;rw[evalPart_some];refine thn (h pins s σ H _ I hw) fun u s1 zz67=>?_
 obtain⟨x,H1,I1,r1,q1⟩:=zz67;obtain⟨i,rfl,q⟩:=q1;obtain⟨t,rfl⟩:=r1;exact⟨some i,H1,I1,.int i t,q⟩
def SlR(X:Cx)(r:V->Option Int->Option Int->Hp->VK->Prop):Prop:=
 ∀(pins:List (Addr×Obj)) (s:Shared) (σ:St) (H:Hp) (x:V) (v vl vu:Value) (lo hi:Option Int) (sl:Addr) (Q:VK),Inv X pins σ H s->RelV x v->s.heap.IsSliceOf sl vl vu .none->IsPart vl lo->IsPart vu hi->r x lo hi H Q ->
  ∃T id,typeLookup (.type T) "__getitem__" = pure (some (.builtin id))/\s.TypeIs v T/\wpAny (model X.prog X.w) X.A (getItem v (.ref sl)) (EP X pins σ Q) X.xe s
def tSl(r:V->Option Int->Option Int->Hp->VK->Prop)(te:TE)(tl th:TO):TE:=fun σ H Q=>te σ H fun x H1=>tl σ H1 fun l H2=>th σ H2 fun u H3=>r x l u H3 Q
theorem Hb{r:V->Option Int->Option Int->Hp->VK->Prop}(hr:SlR X r)(he:PE X e te)(hl:PO X lo tl)(hu:PO X hi th):PE X (.Subscript e (.Slice lo hi none p2) pos) (tSl r te tl th):=by
 intro pins s σ H Q I h;refine Subscript_ (thn (he pins s σ H _ I h) fun v s1 zz68=>?_);obtain⟨x,H1,I1,r1,q1⟩:=zz68;refine wpAny_Slice (thn (hl pins s1 σ H1 _ I1 q1) fun vl s2 zz69=>?_);obtain⟨l,H2,I2,pl,q2⟩:=zz69;refine thn (hu pins s2 σ H2 _ I2 q2) fun vu s3 zz70=>?_
 obtain⟨u,H3,I3,pu,q3⟩:=zz70;rw[evalPart_none];refine wpAny_pure ?_;have I4:Inv X pins σ H3 { s3 with heap:=s3.heap.push { cls:=.type "slice",data:=.fields #[vl,vu,.none] } }:=I3.kept (t':=s3.toks) fun b ob q=>Heap.get?_push_of_some _ q
 obtain⟨T,id,hT,ht,hg⟩:=hr pins { s3 with heap:=s3.heap.push { cls:=.type "slice",data:=.fields #[vl,vu,.none] } } σ H3 x v vl vu l u s3.heap.objs.size Q I4 r1 (Heap.IsSliceOf.new ..) pl pu q3;show wpAny (model X.prog X.w) X.A (subscriptTail e (.Slice lo hi none p2) v (.ref s3.heap.objs.size)) (EP X pins σ Q) X.xe { s3 with heap:=s3.heap.push { cls:=.type "slice",data:=.fields #[vl,vu,.none] } };exact tail_any (ops:=[.ref s3.heap.objs.size,v]) ht hT hg (by with_unfolding_all rfl)
def cutV(xs:List V)(lo hi:Option Int):List V:=(xs.drop (HT.sIx xs.length 0 lo)).take (HT.sIx xs.length xs.length hi-HT.sIx xs.length 0 lo)
theorem sF(xs:List V)(lo hi:Option Int):(cutV xs lo hi).length<=xs.length:=by
 unfold cutV;rw[List.length_take,List.length_drop];omega
def rSlT(K:PySem.W.Frag):V->Option Int->Option Int->Hp->VK->Prop:=fun x lo hi H Q=>∃a xs,x=.ref a/\SqT K H a xs /\
 ¬(HT.sIx xs.length 0 lo=0/\HT.sIx xs.length xs.length hi=xs.length)/\∀p,H p=none->Q (.ref p) (upd H p (.tup (cutV xs lo hi)))
theorem Li:SlR X (rSlT X.K):=by
 intro pins s σ H x v vl vu lo hi sl Q I rx hs pl pu h;obtain⟨a,xs,rfl,hx,hw,q⟩:=h;cases rx;obtain⟨its,r,ht,hz⟩:=I.tuple hx;have hlen:its.toArray.size=xs.length:=by rw[List.size_toArray];exact r.length.symm
 refine⟨"tuple",_,PyProof.Rows.slot_tuple_getitem.lookup,ht.typeIs,?_⟩;refine HT.rV ht hs pl pu (by rw[hlen];exact hw) ?_ (by rw[hlen];exact hz);rw[hlen];refine⟨.ref s.heap.objs.size,_,I.laid (t':=s.toks) (o:=.tup (cutV xs lo hi)) (fun b ob q=>Heap.get?_push_of_some _ q) (Nat.le_refl _) ?_,rfl,q _ (I.hok.fresh (Nat.le_refl _))⟩;exact⟨Nat.le_trans (sF xs lo hi) hz,_,(r.drop (HT.sIx xs.length 0 lo)).take (HT.sIx xs.length xs.length hi-HT.sIx xs.length 0 lo),IsTup.new _ _⟩
def MA(K:PySem.W.Frag):R2:=fun x y H Q=>∃a b xs ys,x=.ref a/\y=.ref b/\SqT K H a xs/\SqT K H b ys/\xs≠[]/\xs.length+ys.length<=sizeLine /\
 (ys=[]->Q (.ref a) H)/\(ys≠[]->∀p,H p=none->Q (.ref p) (upd H p (.tup (xs++ys))))
theorem Vals.nil_iff{xs:List V}{us:List Value}(r:Vals xs us):us=[]↔xs=[]:=by
 cases r with
 |nil=>simp
 |cons _ _=>simp
theorem Jo:OpR X (binaryOp .Add) (MA X.K):=by
 intro pins s σ H x y v u Q I rx ry h;obtain⟨a,b,xs,ys,rfl,rfl,ha,hb,hx,hz,q1,q2⟩:=h;cases rx;cases ry;obtain⟨its,r1,p1,_⟩:=I.tuple ha;obtain⟨its2,r2,p2,_⟩:=I.tuple hb;refine HT.Jk p1 p2 (fun z=>hx (r1.nil_iff.mp z)) (fun z=>⟨.ref a,H,I,rfl,q1 (r2.nil_iff.mp z)⟩) (fun z=>?_) (by rw[←r1.length,←r2.length];exact hz);refine⟨.ref s.heap.objs.size,_,I.laid (t':=s.toks) (o:=.tup (xs++ys)) (fun b ob q=>Heap.get?_push_of_some _ q) (Nat.le_refl _) ?_,rfl,q2 (fun w=>z (r2.nil_iff.mpr w)) _ (I.hok.fresh (Nat.le_refl _))⟩;exact⟨by rw[List.length_append];exact hz,_,r1.append r2,IsTup.new _ _⟩
end
end L2
namespace L2
open PySem PySem.Spec PyProof.Rows
def ixN(n:Nat)(i:Int):Option Nat:=if 0<=i then(if i<n then some i.toNat else none) else if -(n:Int)<=i then some (i+n).toNat else none
def atI{α:Type}(xs:List α)(i:Int):Option α:=(ixN xs.length i).bind fun j=>xs[j]?
theorem Dp{n:Nat}{i:Int}{j:Nat}(h:ixN n i=some j):seqIndex? i n=some j/\j<n/\-(n:Int)<=i/\i<n:=by
 unfold ixN at h;by_cases h0:0<=i
 ·rw[if_pos h0] at h
  by_cases h1:i<n
  ·rw[if_pos h1] at h
   have e:i.toNat=j:=Option.some.inj h;exact⟨by rw[seqIndex_of h0 h1,e],by omega,by omega,h1⟩
  ·rw[if_neg h1] at h;cases h
 ·rw[if_neg h0] at h
  by_cases h1:-(n:Int)<=i
  ·rw[if_pos h1] at h
   have e:(i+n).toNat=j:=Option.some.inj h;exact⟨by rw[seqIndex_neg (by omega) h1,e],by omega,h1,by omega⟩
  ·rw[if_neg h1] at h;cases h
theorem wU{α:Type}{xs:List α}{i:Int}{v:α}(h:atI xs i=some v):∃j,seqIndex? i xs.length=some j/\xs[j]?=some v/\j<xs.length/\-(xs.length:Int)<=i/\i<xs.length:=by
 unfold atI at h;cases e:ixN xs.length i with
 |none=>rw[e] at h;cases h
 |some j=>
  rw[e] at h;obtain⟨h1,h2,h3,h4⟩:=Dp e;exact⟨j,h1,h,h2,h3,h4⟩
theorem gn{α:Type}{xs:List α}{j:Nat}{v:α}(h:xs[j]?=some v):atI xs (j:Int)=some v:=by
 have hj:j<xs.length:=(List.getElem?_eq_some_iff.mp h).1;have e:ixN xs.length (j:Int)=some j:=by
  unfold ixN;rw[if_pos (by omega),if_pos (by omega)];simp
 unfold atI;rw[e];exact h
theorem Hc{α:Type}(xs:List α)(v:α):atI (xs++[v]) (-1)=some v:=by
 have hl:(xs++[v]).length=xs.length+1:=by simp
 have e:ixN (xs++[v]).length (-1)=some xs.length:=by
  unfold ixN;rw[hl,if_neg (by decide),if_pos (by omega)];congr 1;omega
 unfold atI;rw[e];show(xs++[v])[xs.length]?=some v;simp
def Dq(b:Expr):Prop:=∀o i,subscripted b false o i=operate [o,i] (getItem o i)
def IxR(X:Cx)(r:R2):Prop:=
 ∀(value slice:Expr) (pins:List (Addr×Obj)) (s:Shared) (σ:St) (H:Hp) (x y:V) (v u:Value) (Q:VK),Inv X pins σ H s->RelV x v->RelV y u->r x y H Q ->
  subscripted slice false v u=operate [v,u] (getItem v u)->wpAny (model X.prog X.w) X.A (subscriptTail value slice v u) (EP X pins σ Q) X.xe s
def MtR(X:Cx)(id:String)(r:V->List V->Hp->VK->Prop):Prop:=
 ∀(pins:List (Addr×Obj)) (s:Shared) (σ:St) (H:Hp) (x:V) (xs:List V) (v:Value) (us:List Value) (Q:VK),Inv X pins σ H s->RelV x v->Vals xs us->r x xs H Q ->
  wpAny (model X.prog X.w) X.A (call (.builtin id) (v::us)) (EP X pins σ Q) X.xe s
section
variable {X : Cx} {a b : Expr} {ta tb : TE} {pos : Pos}
theorem MB{r:R2}(hr:IxR X r)(ha:PE X a ta)(hb:PE X b tb)(hs:Dq b):PE X (.Subscript a b pos) (tOp r ta tb):=by
 intro pins s σ H Q I h;exact Subscript_ (binT ha hb I h fun v u s2 x y H2 I2 rx ry q=>hr a b pins s2 σ H2 x y v u Q I2 rx ry q (hs _ _))
def rIxL(K:PySem.W.Frag):R2:=fun x y H Q=>∃p xs i v,x=.ref p/\y=.int i/\SqL K H p xs/\atI xs i=some v/\Q v H
def rIxT(K:PySem.W.Frag):R2:=fun x y H Q=>∃p xs i v,x=.ref p/\y=.int i/\SqT K H p xs/\atI xs i=some v/\Q v H
def rIxS:R2:=fun x y H Q=>∃z i c,x=.str z/\y=.int i/\z.length<=sizeLine/\atI z.cps.toList i=some c/\Q (.str ⟨#[c]⟩) H
theorem Dr:IxR X (rIxL X.K):=by
 intro value slice pins s σ H x y v u Q I rx ry h hs;obtain⟨p,xs,i,z,rfl,rfl,hq,he,q⟩:=h;cases rx;obtain⟨t,rfl⟩:=ry;obtain⟨its,r,pl,hz⟩:=I.list hq;obtain⟨j,h1,h2,h3,h4,h5⟩:=wU he;obtain⟨w,ew,rw'⟩:=r.get h2;have hl:=r.length;have hn:=lV;have fin:EP X pins σ Q w s:=⟨z,H,I,rw',q⟩;by_cases h0:0<=i
 ·have hj:i.toNat=j:=by
   rw[seqIndex_of h0 h5] at h1;exact Option.some.inj h1
  exact item_listR pl.isList h0 (by omega) (by rw[hj];simpa using ew) fin hs
 ·have hj:(i+(its.toArray.size:Int)).toNat=j:=by
   rw[seqIndex_neg (by omega) h4] at h1;rw[List.size_toArray,←hl];exact Option.some.inj h1
  exact subscriptTail_builtinR (x:=w) pl.isList.typeIs slot_list_getitem.lookup
   (wpAny_getItem_list_neg (Q:=fun r s'=>r=w/\EP X pins σ Q r s') pl.isList (by omega) (by rw[List.size_toArray]<;>omega) (by omega) (by rw[hj];simpa using ew) ⟨rfl,fin⟩) hs
theorem Lj:IxR X (rIxT X.K):=by
 intro value slice pins s σ H x y v u Q I rx ry h hs;obtain⟨p,xs,i,z,rfl,rfl,hq,he,q⟩:=h;cases rx;obtain⟨t,rfl⟩:=ry;obtain⟨its,r,pl,hz⟩:=I.tuple hq;obtain⟨j,h1,h2,h3,h4,h5⟩:=wU he;obtain⟨w,ew,rw'⟩:=r.get h2;have hl:=r.length;have hn:=lV;have fin:EP X pins σ Q w s:=⟨z,H,I,rw',q⟩;exact subscriptTail_builtinR (x:=w) pl.typeIs slot_tuple_getitem.lookup
  (getItem_tuple (j:=j) (Q:=fun r s'=>r=w/\EP X pins σ Q r s') pl (by omega) (by omega) (by rw[List.size_toArray,←hl];exact h1) (by simpa using ew) ⟨rfl,fin⟩) hs
theorem Lk:IxR X rIxS:=by
 intro value slice pins s σ H x y v u Q I rx ry h hs;obtain⟨z,i,c,rfl,rfl,hz,he,q⟩:=h;obtain⟨t,rfl⟩:=rx;obtain⟨t',rfl⟩:=ry;obtain⟨j,h1,h2,h3,h4,h5⟩:=wU he;have hl:z.cps.toList.length=z.length:=by simp[Str.length]
 rw[hl] at h1 h4 h5;have hn:=lV;exact tail_any (typeIs_str s z t) slot_str_getitem.lookup (getItem_str (c:=c) (by
  have e1:decide (i < -(2 ^ 63:Int))=false:=decide_eq_false (by omega);have e2:decide (i>=2 ^ 63)=false:=decide_eq_false (by omega);rw[e1,e2,Bool.or_false]) (by rw[h1];simpa using h2) ⟨.str ⟨#[c]⟩,H,I.tok _,⟨_,rfl⟩,q⟩) hs
theorem Ef(its:List Value)(n j:Nat)(u:Value):Obj.mapSeq (·.setIfInBounds j u) { cls:=.type "list",data:=.seq its.toArray n }={ cls:=.type "list",data:=.seq (its.set j u).toArray n }:=by
 simp[Obj.mapSeq]
theorem Inv.lst{pins:List (Addr×Obj)}{σ:St}{H:Hp}{s:Shared}{p:Addr}{xs:List V}(I:Inv X pins σ H s)(h:H p=some (.lst xs)):
  ∃(its:List Value) (n:Nat),Vals xs its/\s.heap.get? p=some { cls:=.type "list",data:=.seq its.toArray n }/\xs.length<=sizeLine:=by
 obtain⟨z,its,n,r,e⟩:=I.hok p _ h;exact⟨its,n,r,e,z⟩
theorem Inv.lstUpd{pins:List (Addr×Obj)}{σ:St}{H:Hp}{s:Shared}{p:Addr}{xs ys:List V}{its its':List Value}{n n':Nat}{f:Obj->Obj}(I:Inv X pins σ H s)(h:H p=some (.lst xs))
  (ho:s.heap.get? p=some { cls:=.type "list",data:=.seq its.toArray n }) (hf:f { cls:=.type "list",data:=.seq its.toArray n }={ cls:=.type "list",data:=.seq its'.toArray n' }) (r:Vals ys its') (hz:ys.length<=sizeLine) (t:Nat):
  Inv X pins σ (upd H p (.lst ys)) { s with heap:=s.heap.update p f,toks:=t }:=by
 have e:(s.heap.update p f).get? p=some { cls:=.type "list",data:=.seq its'.toArray n' }:=by
  rw[Heap.get?_update_self f ho (by rw[hf]<;>rfl),hf]
 refine I.write (x:=p) (e:=p) (by rw[h];trivial) (.inl rfl) (fun b u hb q=>(Heap.get?_update_other _ _ (Ne.symm hb)).trans q) ⟨_,e⟩ ?_;exact⟨hz,its',n',r,e⟩
def MD:V->V->V->Hp->(Hp->Prop)->Prop:=fun o i v H Q=>∃p xs k j,o=.ref p/\i=.int k/\H p=some (.lst xs)/\ixN xs.length k=some j/\Q (upd H p (.lst (xs.set j v)))
theorem set_list:PSet X MD:=by
 intro pins s σ H o i v ov iv u Q I ro ri rv h;obtain⟨p,xs,k,j,rfl,rfl,hp,hj,q⟩:=h;cases ro;obtain⟨t,rfl⟩:=ri;obtain⟨its,n,r,ho,hz⟩:=I.lst hp;obtain⟨h1,h2,h3,h4⟩:=Dp hj;have hl:=r.length;have hn:=lV;have I':Inv X pins σ (upd H p (.lst (xs.set j v))) { s with heap:=s.heap.update p (Obj.mapSeq (·.setIfInBounds j u)) }:=
  I.lstUpd hp ho (Ef its n j u) (r.set rv j) (by rw[List.length_set];exact hz) s.toks
 by_cases h0:0<=k
 ·have hk:k.toNat=j:=by
   rw[seqIndex_of h0 h4] at h1;exact Option.some.inj h1
  exact PySem.W.ki_setAt ho h0 (by omega) (by rw[List.size_toArray,←hl];exact h4) (by rw[hk];exact⟨_,I',q⟩)
 ·have hk:(k+(its.toArray.size:Int)).toNat=j:=by
   rw[seqIndex_neg (by omega) h3] at h1;rw[List.size_toArray,←hl];exact Option.some.inj h1
  exact PySem.W.ki_setBack ho (by omega) (by rw[List.size_toArray,←hl];exact h3) (by omega) (by rw[hk];exact⟨_,I',q⟩)
theorem zH(lo hi:Option Int)(n:Nat):(sliceBounds lo hi none n).1=((HT.sIx n 0 lo:Nat):Int)/\(sliceBounds lo hi none n).2.1=((HT.sIx n n hi:Nat):Int)/\(sliceBounds lo hi none n).2.2=1:=by
 refine⟨?_,?_,rfl⟩
 ·cases lo with
  |none=>simp[sliceBounds,HT.sIx]
  |some i=>
   simp only[sliceBounds,HT.sIx,Option.getD_none,show(1:Int)>0 by decide,if_true];by_cases h:i<0
   ·simp only[h,if_true]<;>omega
   ·simp only[h,if_false]<;>omega
 ·cases hi with
  |none=>simp[sliceBounds,HT.sIx]
  |some i=>
   simp only[sliceBounds,HT.sIx,Option.getD_none,show(1:Int)>0 by decide,if_true];by_cases h:i<0
   ·simp only[h,if_true]<;>omega
   ·simp only[h,if_false]<;>omega
theorem yE(its:List Value)(lo hi:Option Int):slicePick its.toArray lo hi none=((its.drop (HT.sIx its.length 0 lo)).take (HT.sIx its.length its.length hi-HT.sIx its.length 0 lo)).toArray:=by
 obtain⟨h1,h2,h3⟩:=zH lo hi its.toArray.size;unfold slicePick;rw[h1,h2,h3];simp only[sliceRange_one,pick_run,List.size_toArray]<;>rfl
def rSlL(K:PySem.W.Frag):V->Option Int->Option Int->Hp->VK->Prop:=fun x lo hi H Q=>∃a xs,x=.ref a/\SqL K H a xs/\∀p,H p=none->Q (.ref p) (upd H p (.lst (cutV xs lo hi)))
theorem Jp:SlR X (rSlL X.K):=by
 intro pins s σ H x v vl vu lo hi sl Q I rx hs pl pu h;obtain⟨a,xs,rfl,hx,q⟩:=h;cases rx;obtain⟨its,r,ht,hz⟩:=I.list hx;have hlen:=r.length;refine⟨"list",_,slot_list_getitem.lookup,ht.isList.typeIs,?_⟩;refine wpAny_getItem_list_slice ht.isList hs pl pu .none (by simp) ?_ (by rw[List.size_toArray]<;>omega);rw[yE,←hlen];refine⟨.ref s.heap.objs.size,_,I.laid (t':=s.toks) (o:=.lst (cutV xs lo hi)) (fun b ob q=>Heap.get?_push_of_some _ q) (Nat.le_refl _) ?_,rfl,q _ (I.hok.fresh (Nat.le_refl _))⟩;exact⟨Nat.le_trans (sF xs lo hi) hz,_,0,(r.drop (HT.sIx xs.length 0 lo)).take (HT.sIx xs.length xs.length hi-HT.sIx xs.length 0 lo),Heap.get?_push_size _ rfl⟩
def Eg:V->Bool
 |.non=>true
 |.bl _=>true
 |.int _=>true
 |.str _=>true
 |_=>false
def eqV:V->V->Bool
 |.non,.non=>true
 |.bl a,.bl b=>a==b
 |.bl a,.int b=>(if a then 1 else 0)==b
 |.int a,.bl b=>a==(if b then 1 else 0)
 |.int a,.int b=>a==b
 |.str a,.str b=>a==b
 |_,_=>false
theorem Fz{A:Around}{s:Shared}{y x:V}{u v:Value}(ry:RelV y u)(rx:RelV x v)(fy:Eg y=true)(fx:Eg x=true):SeqAt.EqAt A s u v (eqV y x):=by
 cases y with
 |non=>
  cases ry;cases x with
  |non=>cases rx;exact SeqAt.EqAt.same _
  |bl b=>cases rx;exact SeqAt.EqAt.none_bool b
  |int b=>obtain⟨t,rfl⟩:=rx;exact SeqAt.EqAt.none_int b t
  |str b=>obtain⟨t,rfl⟩:=rx;exact SeqAt.EqAt.none_str b t
  |_=>exact absurd (show false=true from fx) Bool.false_ne_true
 |bl a=>
  cases ry;cases x with
  |non=>cases rx;exact SeqAt.EqAt.bool_none a
  |bl b=>cases rx;exact SeqAt.EqAt.bool_bool a b
  |int b=>obtain⟨t,rfl⟩:=rx;exact SeqAt.EqAt.bool_int a b t
  |str b=>obtain⟨t,rfl⟩:=rx;exact SeqAt.EqAt.bool_str a b t
  |_=>exact absurd (show false=true from fx) Bool.false_ne_true
 |int a=>
  obtain⟨t',rfl⟩:=ry;cases x with
  |non=>cases rx;exact SeqAt.EqAt.int_none a t'
  |bl b=>cases rx;exact SeqAt.EqAt.int_bool a t' b
  |int b=>obtain⟨t,rfl⟩:=rx;exact SeqAt.EqAt.int_int a t' b t
  |str b=>obtain⟨t,rfl⟩:=rx;exact SeqAt.EqAt.int_str a t' b t
  |_=>exact absurd (show false=true from fx) Bool.false_ne_true
 |str a=>
  obtain⟨t',rfl⟩:=ry;cases x with
  |non=>cases rx;exact SeqAt.EqAt.str_none a t'
  |bl b=>cases rx;exact SeqAt.EqAt.str_bool a t' b
  |int b=>obtain⟨t,rfl⟩:=rx;exact SeqAt.EqAt.str_int a t' b t
  |str b=>obtain⟨t,rfl⟩:=rx;exact SeqAt.EqAt.str_str a t' b t
  |_=>exact absurd (show false=true from fx) Bool.false_ne_true
 |_=>exact absurd (show false=true from fy) Bool.false_ne_true
theorem lX:gm X (.builtin "len") (fun xs H Q=>∃p ys,xs=[.ref p]/\(SqL X.K H p ys\/SqT X.K H p ys)/\Q (.int ys.length) H):=by
 intro pins s σ H xs us Q I r h;obtain⟨p,ys,rfl,hq,q⟩:=h;obtain⟨u,rfl,rx⟩:=vals1 r;cases rx;have hn:=lV;rcases hq with hq | hq
 ·obtain⟨its,r',pl,hz⟩:=I.list hq
  have hlen:=r'.length;exact Calls.call_len_list pl.isList (by simp only[List.size_toArray]<;>omega) ⟨.int ys.length,H,I.tok _,⟨s.toks+1,by rw[List.size_toArray,hlen]⟩,q⟩
 ·obtain⟨its,r',pl,hz⟩:=I.tuple hq
  have hlen:=r'.length;exact len_tuple pl (by simp only[List.size_toArray]<;>omega) ⟨.int ys.length,H,I.tok _,⟨s.toks+1,by rw[List.size_toArray,hlen]⟩,q⟩
theorem zI:gm X (.builtin "len") (fun xs H Q=>∃z,xs=[.str z]/\z.length<=sizeLine/\Q (.int z.length) H):=by
 intro pins s σ H xs us Q I r h;obtain⟨z,rfl,hz,q⟩:=h;obtain⟨u,rfl,t,rfl⟩:=vals1 r;have hn:=lV;exact len_str (by omega) ⟨.int z.length,H,I.tok _,⟨_,rfl⟩,q⟩
theorem qb:gm X (.type "list") (fun xs H Q=>∃p ys,xs=[.ref p]/\(SqL X.K H p ys\/SqT X.K H p ys)/\∀l,H l=none->Q (.ref l) (upd H l (.lst ys))):=by
 intro pins s σ H xs us Q I r h;obtain⟨p,ys,rfl,hq,q⟩:=h;obtain⟨u,rfl,rx⟩:=vals1 r;cases rx;have fin:∀(its:List Value),Vals ys its->ys.length<=sizeLine->∀(h':Heap) (c':Nat),(∀b o',s.heap.get? b=some o'->h'.get? b=some o') ->
   h'.get? s.heap.objs.size=some { cls:=.type "list",dict:=none,data:=.seq its.toArray c',slots:=#[] }->EP X pins σ Q (.ref s.heap.objs.size) { s with heap:=h' }:=fun its r' hz h' c' kp e=>
  ⟨.ref s.heap.objs.size,_,I.laid (t':=s.toks) kp (Nat.le_refl _) (show aY X.prog X.w _ h' _ (.lst ys) from⟨hz,its,c',r',e⟩),rfl,q _ (I.hok.fresh (Nat.le_refl _))⟩
 rcases hq with hq | hq
 ·obtain⟨its,r',pl,hz⟩:=I.list hq
  have hlen:=r'.length;obtain⟨o,ho,hc,n,hd⟩:=pl.isList;exact call_list_seq p (.inl rfl) ho hc hd (fun h' c' kp e=>fin its r' hz h' c' kp e) (by simp only[List.size_toArray]<;>omega)
 ·obtain⟨its,r',pl,hz⟩:=I.tuple hq
  have hlen:=r'.length;obtain⟨o,ho,hc,n,hd⟩:=pl;exact call_list_seq p (.inr rfl) ho hc hd (fun h' c' kp e=>fin its r' hz h' c' kp e) (by simp only[List.size_toArray]<;>omega)
theorem oX:gm X (.type "tuple") (fun xs H Q=>∃p ys,xs=[.ref p]/\((SqL X.K H p ys/\∀l,H l=none->Q (.ref l) (upd H l (.tup ys)))\/(SqT X.K H p ys/\Q (.ref p) H))):=by
 intro pins s σ H xs us Q I r h;obtain⟨p,ys,rfl,h⟩:=h;obtain⟨u,rfl,rx⟩:=vals1 r;cases rx;rcases h with⟨hq,q⟩ | ⟨hq,q⟩
 ·obtain⟨its,r',pl,hz⟩:=I.list hq
  have hlen:=r'.length;refine call_tuple_list pl.isList (fun h' kp=>?_) (by simp only[List.size_toArray]<;>omega);have I1:Inv X pins σ H { s with heap:=h' }:=I.kept (t':=s.toks) kp;have I2:Inv X pins σ (upd H h'.objs.size (.tup ys)) { s with heap:=h'.push { cls:=.type "tuple",data:=.seq its.toArray } }:=
   I1.laid (t':=s.toks) (fun b o e=>Heap.get?_push_of_some _ e) (Nat.le_refl _) (show aY X.prog X.w _ _ _ (.tup ys) from⟨hz,its,r',IsTup.new _ _⟩)
  exact⟨.ref h'.objs.size,_,I2,rfl,q _ (I1.hok.fresh (Nat.le_refl _))⟩
 ·obtain⟨its,r',pl,hz⟩:=I.tuple hq
  exact call_tuple_same pl ⟨.ref p,H,I,rfl,q⟩
def tyV(K:PySem.W.Frag)(T:String)(x:V)(H:Hp):Prop:=match x with
 |.str _=>T = "str"
 |.int _=>T = "int"
 |.ref p=>(T = "list"/\∃xs,SqL K H p xs)\/(T = "tuple"/\∃o,K.lookup p=some o/\o.cls=.type "tuple"/\o.dict=none) \/
   (T = "dict"/\((∃kvs,H p=some (.dK kvs)) \/ ∃kvs,H p=some (.dT kvs)))\/(T = "set"/\∃S n,H p=some (.set S n))
 |_=>False
theorem FA{pins:List (Addr×Obj)}{σ:St}{H:Hp}{s:Shared}{T:String}{x:V}{v:Value}(I:Inv X pins σ H s)(r:RelV x v)(ty:tyV X.K T x H):
  s.TypeIs v T/\∀a,v=.ref a->∃ob,s.heap.get? a=some ob/\ob.dict=none:=by
 cases x with
 |str z=>
  obtain⟨t,rfl⟩:=r;cases(show T = "str" from ty);exact⟨typeIs_str s z t,fun _ e=>nomatch e⟩
 |int i=>
  obtain⟨t,rfl⟩:=r;cases(show T = "int" from ty);exact⟨typeIs_int s i t,fun _ e=>nomatch e⟩
 |ref p=>
  cases r;rcases ty with⟨rfl,xs,hq⟩ | ⟨rfl,o,hk,hc,hd⟩ | ⟨rfl,hk⟩ | ⟨rfl,S,n,hk⟩
  ·obtain⟨its,_,pl,_⟩:=I.list hq
   refine⟨pl.isList.typeIs,fun a e=>?_⟩;cases e;obtain⟨o,n,e,c,hd,_⟩:=pl;exact⟨o,e,hd⟩
  ·refine⟨⟨o,I.kIn p o hk,hc⟩,fun a e=>?_⟩
   cases e;exact⟨o,I.kIn _ o hk,hd⟩
  ·have z:∃o,s.heap.get? p=some o/\o.ExactDict:=by
    rcases hk with⟨kvs,hk⟩ | ⟨kvs,hk⟩
    ·obtain⟨_,_,_,_,o,_,_,e,ex,_⟩:=I.hok p _ hk
     exact⟨o,e,ex⟩
    ·obtain⟨_,_,_,_,o,_,_,e,ex,_⟩:=I.hok p _ hk
     exact⟨o,e,ex⟩
   obtain⟨o,e,ex⟩:=z;refine⟨⟨o,e,ex.1⟩,fun a e2=>?_⟩;cases e2;exact⟨o,e,ex.2.1⟩
  ·obtain⟨o,_,_,_,e,ex,_⟩:=I.hok p _ hk
   refine⟨⟨o,e,ex.1⟩,fun a e2=>?_⟩;cases e2;exact⟨o,e,ex.2.1⟩
 |_=>exact False.elim ty
def tBM0(K:PySem.W.Frag)(T:String)(r:V->List V->Hp->VK->Prop)(to:TE):TE:=fun σ H Q=>to σ H fun x H1=>tyV K T x H1/\r x [] H1 Q
def tBM(K:PySem.W.Frag)(T:String)(r:V->List V->Hp->VK->Prop)(to:TE)(t:TA):TE:=fun σ H Q=>to σ H fun x H1=>tyV K T x H1/\t σ H1 fun xs H2=>r x xs H2 Q
variable {o e : Expr} {es : List Expr} {to : TE} {t : TA} {name : Str} {apos cpos : Pos} {T id : String} {r : V -> List V -> Hp -> VK -> Prop}
theorem Ll(pa:PlainAttrs T)(slot:Slot T name id)(hty:typeOf (.builtin id)=pure (.type "method_descriptor"))(hm:MtR X id r)(ho:PE X o to)
  (hbase:attributeBase o name X.env (eval o X.env)=eval o X.env:=by rfl) (hline:(apos.endLine==cpos.line)=true:=by rfl):PE X (.Call (.Attribute o name apos) [] [] cpos) (tBM0 X.K T r to):=by
 intro pins s σ H Q I h;refine wpAny_Call_method0_late hbase hline (thn (ho pins s σ H _ I h) fun v s1 zz71=>?_);obtain⟨x,H1,I1,r1,ty,q1⟩:=zz71;obtain⟨h1,h2⟩:=FA I1 r1 ty;exact⟨T,id,pa,slot,hty,h1,h2,Calls.callWith_builtin rfl (PySem.evalArgs_none (hm pins s1 σ H1 x [] v [] Q I1 r1 .nil q1))⟩
theorem ME(pa:PlainAttrs T)(slot:Slot T name id)(hty:typeOf (.builtin id)=pure (.type "method_descriptor"))(hm:MtR X id r)(ho:PE X o to)(ha:PA X (e::es) t)
  (hbase:attributeBase o name X.env (eval o X.env)=eval o X.env:=by rfl)
  (hfew:((backTo cpos (starEach (e::es) X.env)).all (fun x=>!x.1)&&(backToKw cpos (keywordEach [] X.env)).all (fun x=>x.1.isSome)
   && decide ((e::es).length+([]:List Keyword).length+(if([]:List Keyword).isEmpty then 0 else 1)<30))=true:=by rfl)
  (hline:(apos.endLine==cpos.line)=true:=by rfl) (hs:starEach (e::es) X.env=(false,eval e X.env)::starEach es X.env:=by rfl) (hplain:(backTo cpos (starEach es X.env)).any (·.1)=false:=by rfl):
  PE X (.Call (.Attribute o name apos) (e::es) [] cpos) (tBM X.K T r to t):=by
 intro pins s σ H Q I h;refine wpAny_Call_method_late hbase hfew hline rfl (thn (ho pins s σ H _ I h) fun v s1 zz72=>?_);obtain⟨x,H1,I1,r1,ty,q1⟩:=zz72;obtain⟨h1,h2⟩:=FA I1 r1 ty;refine⟨T,id,pa,slot,hty,h1,h2,?_⟩;have hA:=ha cpos pins s1 σ H1 _ I1 q1;rw[hs] at hA ⊢;refine Calls.callWith_builtin (by show(false||(backTo cpos (starEach es X.env)).any (·.1))=false;rw[hplain]<;>rfl) (Calls.evalArgs_plain ?_);refine thn hA fun us s2 zz73=>?_
 obtain⟨vs,H2,I2,r2,q2⟩:=zz73;exact hm pins s2 σ H2 x vs v us Q I2 r1 r2 q2
end
end L2
namespace L2
open PySem PySem.Spec PyProof.Rows
def MtM(X:Cx)(id:String)(r:V->List V->Hp->VK->Prop):Prop:=
 ∀(pins:List (Addr×Obj)) (s:Shared) (σ:St) (H:Hp) (x:V) (xs:List V) (v:Value) (us:List Value) (Q:VK),Inv X pins σ H s->RelV x v->Vals xs us->r x xs H Q ->
  wpAny (model X.prog X.w) X.A (call (.builtin id) (v::us)) (EP X pins σ Q) X.xe s
theorem Vals.one{x:V}{us:List Value}(h:Vals [x] us):∃u,us=[u]/\RelV x u:=by
 cases h with
 |cons r t=>cases t;exact⟨_,rfl,r⟩
theorem Vals.two{x y:V}{us:List Value}(h:Vals [x,y] us):∃u v,us=[u,v]/\RelV x u/\RelV y v:=by
 cases h with
 |cons r t=>
  obtain⟨v,rfl,q⟩:=Vals.one t;exact⟨_,v,rfl,r,q⟩
theorem Vals.zero:∀{us:List Value},Vals [] us->us=[]
 |_,.nil=>rfl
theorem Vals.dropLast{xs:List V}{us:List Value}(h:Vals xs us):Vals xs.dropLast us.dropLast:=by
 induction h with
 |nil=>exact .nil
 |cons r t ih=>
  cases t with
  |nil=>exact .nil
  |cons q t'=>exact .cons r ih
theorem Vals.eraseIdx:∀{xs:List V}{us:List Value}(i:Nat),Vals xs us->Vals (xs.eraseIdx i) (us.eraseIdx i)
 |_,_,_,.nil=>.nil
 |_,_,0,.cons _ t=>t
 |_,_,i+1,.cons r t=>.cons r (Vals.eraseIdx i t)
theorem Vals.rep{xs:List V}{us:List Value}(h:Vals xs us):∀k:Nat,Vals (List.replicate k xs).flatten (List.replicate k us).flatten
 |0=>.nil
 |k+1=>by
  rw[List.replicate_succ,List.replicate_succ,List.flatten_cons,List.flatten_cons];exact Vals.append h (Vals.rep h k)
theorem Eh{α:Type}(l:List α):l.eraseIdx (l.length-1)=l.dropLast:=by
 induction l with
 |nil=>rfl
 |cons a r ih=>
  cases r with
  |nil=>rfl
  |cons b r=>
   have e:(a::b::r).length-1=((b::r).length-1)+1:=by
    have h1:(a::b::r).length=r.length+2:=rfl;have h2:(b::r).length=r.length+1:=rfl;omega
   rw[e,List.eraseIdx_cons_succ,ih];all_goals rfl
theorem xY{α:Type}:∀(l:List α) (i:Nat),(l.eraseIdx i).length<=l.length
 |[],_=>Nat.le_refl _
 |_::_,0=>Nat.le_succ _
 |_::r,i+1=>Nat.succ_le_succ (xY r i)
theorem foldl_rep(its:List Value):∀(k:Nat) (acc:List Value),
  List.foldl (fun x1 x2=>x1++x2) acc.toArray (List.replicate k its.toArray)=(acc++(List.replicate k its).flatten).toArray
 |0,acc=>by simp
 |k+1,acc=>by
  have e:acc.toArray++its.toArray=(acc++its).toArray:=by simp
  have e2:(acc++its)++(List.replicate k its).flatten=acc++(List.replicate (k+1) its).flatten:=by
   rw[List.replicate_succ,List.flatten_cons,List.append_assoc]
  rw[←e2,←foldl_rep its k (acc++its),←e,List.replicate_succ,List.foldl_cons]
section
variable {X : Cx} {pins : List (Addr × Obj)} {σ : St} {H : Hp} {s : Shared} {l b : Addr} {xs ys zs : List V}
theorem Inv.lset{its its':List Value}{n:Nat}{f:Array Value->Array Value}{t':Nat}(I:Inv X pins σ H s)(hH:H l=some (.lst xs))
  (e:s.heap.get? l=some { cls:=.type "list",data:=.seq its.toArray n }) (hf:f its.toArray=its'.toArray) (hv:Vals ys its') (hz:ys.length<=sizeLine):
  Inv X pins σ (upd H l (.lst ys)) { s with heap:=s.heap.update l (Obj.mapSeq f),toks:=t' }:=by
 have q:=PySem.IsL.update e f;rw[hf] at q;refine I.write (x:=l) (e:=l) (by rw[hH];exact trivial) (.inl rfl) (fun b' u hb hu=>(Heap.get?_update_other s.heap (Obj.mapSeq f) (Ne.symm hb)).trans hu) ⟨_,q⟩ ?_;exact⟨hz,its',_,hv,q⟩
theorem Inv.lnew{its:List Value}{t':Nat}(I:Inv X pins σ H s)(hv:Vals ys its)(hz:ys.length<=sizeLine):
  Inv X pins σ (upd H s.heap.objs.size (.lst ys)) { s with heap:=s.heap.push { cls:=.type "list",data:=.seq its.toArray },toks:=t' }:=
 I.laid (fun _ _ q=>Heap.get?_push_of_some _ q) (Nat.le_refl _) ⟨hz,its,0,hv,Heap.get?_push_size _ rfl⟩
theorem Inv.fresh(I:Inv X pins σ H s):H s.heap.objs.size=none:=I.hok.fresh (Nat.le_refl _)
theorem Inv.lstM(I:Inv X pins σ H s)(hH:H l=some (.lst xs)):xs.length<=sizeLine/\∃(its:List Value) (n:Nat),Vals xs its/\xs.length=its.length/\s.heap.get? l=some { cls:=.type "list",data:=.seq its.toArray n }:=by
 obtain⟨z,its,n,r,e⟩:=I.hok l _ hH;exact⟨z,its,n,r,r.length,e⟩
theorem ot{n:Nat}(h:n<=sizeLine):Builtin.List.listTooLong n=false:=by
 unfold Builtin.List.listTooLong;exact decide_eq_false (by omega)
end
section
variable {X : Cx}
def Jq:V->List V->Hp->VK->Prop:=fun x vs H Q=>∃l xs y,x=.ref l/\vs=[y]/\H l=some (.lst xs)/\xs.length<sizeLine/\Q .non (upd H l (.lst (xs++[y])))
theorem FB:MtM X "list.append" Jq:=by
 intro pins s σ H x vs v us Q I rx rv h;obtain⟨l,xs,y,rfl,rfl,hH,hz,q⟩:=h;cases rx;obtain⟨u,rfl,ru⟩:=rv.one;obtain⟨z,its,n,r,hl,e⟩:=I.lstM hH;refine call_meets F.slot_list_append ⟨_,e,rfl⟩ F.entry_list_append (F.args_list_append_2 _ _) (PySem.list_append l its.toArray n u (by rw[List.size_toArray];omega)) ⟨e,?_⟩;refine⟨.non,_,I.lset (its':=its++[u]) hH e (by simp) (r.append (.cons ru .nil)) ?_,rfl,q⟩;rw[List.length_append,List.length_singleton];omega
def Jr:V->List V->Hp->VK->Prop:=fun x vs H Q=>∃l b xs zs,x=.ref l/\vs=[.ref b]/\H l=some (.lst xs)/\H b=some (.lst zs)/\xs.length+zs.length<=sizeLine/\Q .non (upd H l (.lst (xs++zs)))
theorem FC:MtM X "list.extend" Jr:=by
 intro pins s σ H x vs v us Q I rx rv h;obtain⟨l,b,xs,zs,rfl,rfl,hH,hB,hz,q⟩:=h;cases rx;obtain⟨u,rfl,ru⟩:=rv.one;cases ru;obtain⟨z,its,n,r,hl,e⟩:=I.lstM hH;obtain⟨z2,its2,n2,r2,hl2,e2⟩:=I.lstM hB;have hsz:its.toArray.size+its2.toArray.size<=sizeLine:=by rw[List.size_toArray,List.size_toArray];omega
 have hlong:¬(!its.toArray.isEmpty&&Builtin.List.listTooLong (its.toArray.size+its2.toArray.size))=true:=by
  rw[ot hsz,Bool.and_false];exact Bool.false_ne_true
 refine call_meets F.slot_list_extend ⟨_,e,rfl⟩ F.entry_list_extend (F.args_list_extend_2 _ _)
  (AutoSeq1.list_extend_list_list_0 l its.toArray n b its2.toArray n2 hlong (by rw[List.size_toArray];omega) (by omega)) ⟨e,e2,?_⟩
 refine⟨.non,_,I.lset (its':=its++its2) hH e (by simp) (r.append r2) ?_,rfl,q⟩;rw[List.length_append];omega
def rPop:V->List V->Hp->VK->Prop:=fun x vs H Q=>∃l xs y,x=.ref l/\vs=[]/\H l=some (.lst xs)/\xs[xs.length-1]?=some y/\Q y (upd H l (.lst xs.dropLast))
theorem Lm:MtM X "list.pop" rPop:=by
 intro pins s σ H x vs v us Q I rx rv h;obtain⟨l,xs,y,rfl,rfl,hH,hy,q⟩:=h;cases rx;have hus:=rv.zero;subst hus;obtain⟨z,its,n,r,hl,e⟩:=I.lstM hH;obtain⟨u,hu,ru⟩:=r.get hy;have hy':its.toArray[its.toArray.size-1]?=some u:=by
  show its.toArray[its.length-1]?=some u;rw[←Array.getElem?_toList,←hl];exact hu
 refine call_meets F.slot_list_pop ⟨_,e,rfl⟩ F.entry_list_pop (F.args_list_pop_1 _) (MeetsSeq.list_pop_last l its.toArray n u hy' (by rw[List.size_toArray];omega)) ⟨e,?_⟩;refine⟨y,_,I.lset (its':=its.dropLast) hH e ?_ r.dropLast ?_,ru,q⟩
 ·show its.toArray.eraseIdxIfInBounds (its.toArray.size-1)=its.dropLast.toArray
  rw[List.size_toArray,List.eraseIdxIfInBounds_toArray,Eh]
 ·rw[List.length_dropLast]
  omega
def Ln:V->List V->Hp->VK->Prop:=fun x vs H Q=>∃l xs i k y,x=.ref l/\vs=[.int i]/\H l=some (.lst xs)/\-(2 ^ 63)<=i/\i<2 ^ 63/\seqIndex? i xs.length=some k/\xs[k]?=some y/\Q y (upd H l (.lst (xs.eraseIdx k)))
theorem Hd:MtM X "list.pop" Ln:=by
 intro pins s σ H x vs v us Q I rx rv h;obtain⟨l,xs,i,k,y,rfl,rfl,hH,h1,h2,hk,hy,q⟩:=h;cases rx;obtain⟨u,rfl,ru⟩:=rv.one;obtain⟨t,rfl⟩:=ru;obtain⟨z,its,n,r,hl,e⟩:=I.lstM hH;obtain⟨w,hw,rw'⟩:=r.get hy;refine call_meets F.slot_list_pop ⟨_,e,rfl⟩ F.entry_list_pop (F.args_list_pop_2 _ _)
  (MeetsSeq.list_pop_at l its.toArray n i t k w (fitsIndex_both h1 h2) (by rw[List.size_toArray,←hl];exact hk) (by rw[←Array.getElem?_toList];exact hw) (by rw[List.size_toArray];omega)) ⟨e,?_⟩
 refine⟨y,_,I.lset (its':=its.eraseIdx k) hH e ?_ (r.eraseIdx k) ?_,rw',q⟩
 ·show its.toArray.eraseIdxIfInBounds k=(its.eraseIdx k).toArray
  rw[List.eraseIdxIfInBounds_toArray]
 ·have:=xY xs k
  omega
def rCat:R2:=fun x y H Q=>∃l b xs zs,x=.ref l/\y=.ref b/\H l=some (.lst xs)/\H b=some (.lst zs)/\xs.length+zs.length<=sizeLine/\∀p,H p=none->Q (.ref p) (upd H p (.lst (xs++zs)))
theorem Lo:OpR X (binaryOp .Add) rCat:=by
 intro pins s σ H x y v u Q I rx ry h;obtain⟨l,b,xs,zs,rfl,rfl,hH,hB,hz,q⟩:=h;cases rx;cases ry;obtain⟨z,its,n,r,hl,e⟩:=I.lstM hH;obtain⟨z2,its2,n2,r2,hl2,e2⟩:=I.lstM hB;refine PySem.P.add_list e e2 ?_ (by rw[List.size_toArray,List.size_toArray];omega);have ea:its.toArray++its2.toArray=(its++its2).toArray:=by simp
 rw[ea];exact⟨.ref _,_,I.lnew (t':=s.toks) (r.append r2) (by rw[List.length_append];omega),rfl,q _ I.fresh⟩
def rRep:R2:=fun x y H Q=>∃l k xs,x=.ref l/\y=.int k/\H l=some (.lst xs)/\-(2 ^ 63)<=k/\k<2 ^ 63/\xs.length*k.toNat<=sizeLine /\
 ∀p,H p=none->Q (.ref p) (upd H p (.lst (List.replicate k.toNat xs).flatten))
theorem len_rep{α:Type}(xs:List α)(k:Nat):(List.replicate k xs).flatten.length=k*xs.length:=by
 induction k with
 |zero=>simp
 |succ k ih=>rw[List.replicate_succ,List.flatten_cons,List.length_append,ih,Nat.succ_mul,Nat.add_comm]
theorem Lp:OpR X (binaryOp .Mult) rRep:=by
 intro pins s σ H x y v u Q I rx ry h;obtain⟨l,k,xs,rfl,rfl,hH,h1,h2,hz,q⟩:=h;cases rx;obtain⟨t,rfl⟩:=ry;obtain⟨z,its,n,r,hl,e⟩:=I.lstM hH;have hlen:its.toArray.size*k.toNat<=sizeLine:=by rw[List.size_toArray,←hl];exact hz
 have hcap:¬its.toArray.size*k.toNat>(2 ^ 63-1) / 8:=by
  have:(sizeLine:Nat)<=(2 ^ 63-1) / 8:=by decide
  omega
 have hfit:¬(!Builtin.List.listFitsIndex k)=true:=by
  rw[fitsIndex_both h1 h2];exact Bool.false_ne_true
 have hlong:¬Builtin.List.listTooLong (its.toArray.size*k.toNat)=true:=by
  rw[ot hlen];exact Bool.false_ne_true
 have hnew:List.foldl (fun x1 x2=>x1++x2) #[] (List.replicate (if its.toArray.isEmpty=true then 0 else k.toNat) its.toArray)=(List.replicate k.toNat its).flatten.toArray:=by
  have f0:∀m:Nat,List.foldl (fun x1 x2=>x1++x2) #[] (List.replicate m its.toArray)=(List.replicate m its).flatten.toArray:=fun m=>by
   have:=foldl_rep its m []
   rw[List.nil_append] at this;exact this
  rw[f0];cases its with
  |nil=>simp
  |cons a r'=>rw[if_neg (by simp)]
 refine wpAny_binaryOp_repeat_ref (T:="list") (U:="int") (by decide) ⟨_,e,rfl⟩ (fun s'=>typeIs_int s' k t) noFill_list_mul F.fills_int_mul F.slot_int_rmul repeat_list F.slot_int_index.lookup
  (call_meets F.slot_int_rmul (typeIs_int s k t) F.entry_int_rmul (F.args_int_rmul_2 _ _) (int___rmul___int_list k t l its.toArray n)
   ⟨e,rfl,⟨_,e,rfl⟩,call_meets F.slot_list_mul ⟨_,e,rfl⟩ F.entry_list_mul (F.args_list_mul_2 _ _) (AutoListH.list___mul___list_int_3 l its.toArray n k t hfit hcap hlong) ⟨e,?_⟩⟩)
 rw[hnew];exact⟨.ref _,_,I.lnew (t':=s.toks) (r.rep k.toNat) (by rw[len_rep,Nat.mul_comm];exact hz),rfl,q _ I.fresh⟩
end
section
variable {prog : Program} {w : World} {A : Around} {E : Value -> Shared -> Prop} {s : Shared}
theorem Ei{a c n:Nat}(hac:a<=c)(hc:c<=n):sliceBounds (some (a:Int)) (some (c:Int)) none n=((a:Int),(c:Int),1):=by
 simp only[sliceBounds,Option.getD_none];have h1:¬((a:Int)<0):=by omega
 have h2:¬((c:Int)<0):=by omega
 simp only[h1,h2,if_false,show(1:Int)>0 by decide,if_true];congr 1
 ·omega
 ·congr 1;omega
set_option maxRecDepth 100000 in
/-- list.__setitem__ with a slice of step one and another list -/
theorem Kx {l b sl:Addr} {items new:Array Value} {n n2:Nat} {vl vu:Value} {a c:Nat} {Q:Unit->Shared->Prop}
    (e:s.heap.get? l = some { cls:=.type "list",data:=.seq items n }) (e2:s.heap.get? b = some { cls:=.type "list",data:=.seq new n2 }) (hne:l ≠ b)
    (hs:s.heap.IsSliceOf sl vl vu .none) (pl:IsPart vl (some (a:Int))) (pu:IsPart vu (some (c:Int))) (hac:a<=c) (hc:c<=items.size)
    (hsz:items.size + new.size<=sizeLine) (h:Q () { s with heap:=s.heap.update l (Obj.mapSeq fun xs=>xs.extract 0 a ++ new ++ xs.extract c xs.size) }) :
    wpAny (model prog w) A (setItem (.ref l) (.ref sl) (.ref b)) Q E s:=by
  have hl:s.heap.IsList l items:=PySem.IsL.isList e
  have hb:s.heap.IsList b new:=PySem.IsL.isList e2
  obtain ⟨os,hos,hcs,hds⟩:=id hs
  have hTs:s.TypeIs (.ref sl) "slice":=⟨os,hos,hcs⟩
  have hstep:¬ ((rawPart none == rawInt 0) = true):=Bool.false_ne_true
  have hsame:Builtin.List.listSameRef (.ref l) (.ref b) = false:=by
    unfold Builtin.List.listSameRef
    exact beq_eq_false_iff_ne.mpr hne
  have hmax:(max (a:Int) (c:Int)).toNat = c:=by omega
  have hz':((fun xs:Array Value=>xs.extract 0 a ++ new ++ xs.extract c xs.size) items).size<=sizeLine + 1:=by
    simp only [Array.size_append,Array.size_extract]
    omega
  unfold setItem
  try with_reducible refine wpAny_holding ?_
  first | refine wpAny_bind (wpAny_pure ?_) | skip
  refine wpAny_bind (wpAny_sequenceKey hl.typeIs (by decide) ?_)
  refine wpAny_bind (wpAny_callSpecial?_slot (name:=Str.ofString "__setitem__") hl.typeIs slot_list_setitem
    (wpAny_call_entry slot_list_setitem hl.typeIs entry_list_setitem ?_ (args_list_setitem _ _ _)))
  show wpAny _ _ (Builtin.List.listSubscript? (.ref sl) >>= _) _ _ s
  refine wpAny_bind ?_
  unfold Builtin.List.listSubscript?
  refine wpAny_bind (wpAny_specialOf hTs slice_no_index ?_)
  simp only [Option.isNone_none,if_true]
  refine wpAny_pure ?_
  show wpAny _ _ (typeOf (.ref sl) >>= _) _ _ s
  refine wpAny_bind (wpAny_typeOf hTs ?_)
  first
    | rw [if_neg (by decide)]
    | refine PySem.W.KFB.if_not (by decide) ?_
  rw [listSliceParts_eq]
  refine wpAny_bind (wpAny_bind (wpAny_field hos hds (x:=.none) rfl (wpAny_bind (wpAny_listPart .none ?_))))
  rw [if_neg hstep]
  refine wpAny_bind (wpAny_field hos hds (x:=vl) rfl (wpAny_bind (wpAny_listPart pl ?_)))
  refine wpAny_bind (wpAny_field hos hds (x:=vu) rfl (wpAny_bind (wpAny_listPart pu (wpAny_pure ?_))))
  first
    | simp only [hsame,Bool.false_eq_true,if_false]
    | refine PySem.W.KFB.if_not hsame ?_
    | (dsimp only
       rw [if_neg (by rw [hsame]; exact Bool.false_ne_true)])
  refine wpAny_bind (m:=Builtin.List.listAllItems (.ref b) "must assign iterable to extended slice") ?_
  unfold Builtin.List.listAllItems
  refine wpAny_bind (wpAny_typeOf hb.typeIs ?_)
  first
    | refine PySem.W.KFB.if_so (by decide) ?_
    | rw [if_pos (by decide)]
    | simp only [beq_self_eq_true,Bool.true_or,if_true]
  unfold Builtin.List.listItems
  refine wpAny_bind (wpAny_seqItems e2 rfl (wpAny_pure ?_))
  refine wpAny_bind (wpAny_bind (wpAny_seqItems e rfl (wpAny_pure ?_)))
  refine wpAny_bind (wpAny_of_eq ((sliceIndices_raw (some (a:Int)) (some (c:Int)) none items.size (by simp)).trans (congrArg (pure:Int × Int × Int->Sem (Int × Int × Int)) (Ei hac hc))) ?_)
  show wpAny _ _ (if ((1:Int) == 1) = true then _ else _) _ _ s
  rw [if_pos (by decide)]
  refine wpAny_bind (wpAny_rule ?_)
  first
    | simp only [ot hsz,Bool.false_eq_true,if_false]
    | refine PySem.W.KFB.if_not (ot hsz) ?_
  first | refine wpAny_bind (wpAny_pure ?_) | skip
  show wpAny _ _ (updateSeq l (fun xs=>xs.extract 0 ((a:Int)).toNat ++ new ++ xs.extract (max (a:Int) (c:Int)).toNat xs.size) >>= _) _ _ s
  rw [hmax,Int.toNat_natCast]
  refine wpAny_bind (wpAny_updateSeq (hz:=Nat.le_trans (Nat.le_add_right _ _) hsz) (_hz':=hz') e rfl ?_)
  refine wpAny_bind (wpAny_letGo ?_)
  first
    | exact wpAny_bind (wpAny_pure (wpAny_pure ⟨.none,rfl,wpAny_pure h⟩))
    | exact wpAny_pure ⟨.none,rfl,wpAny_pure h⟩
end
end L2
namespace L2
open PySem PySem.Spec PyProof.Rows
section
variable {κ : Type} [DecidableEq κ]
def valV(kvs:List (κ×V))(k:κ):Option V:=(kvs.find? fun kv=>decide (kv.1=k)).map (·.2)
def putK(kvs:List (κ×V))(k:κ)(v:V):List (κ×V):=
 if(kvs.any fun kv=>decide (kv.1=k))=true then kvs.map (fun kv=>if kv.1=k then(kv.1,v) else kv) else kvs++[(k,v)]
theorem tK{p:κ×V}{r:List (κ×V)}{k:κ}(e:p.1=k):valV (p::r) k=some p.2:=by simp[valV,List.find?_cons,e]
theorem tL{p:κ×V}{r:List (κ×V)}{k:κ}(e:¬p.1=k):valV (p::r) k=valV r k:=by simp[valV,List.find?_cons,e]
theorem zJ(k:κ):∀kvs:List (κ×V),(kvs.any fun kv=>decide (kv.1=k))=(valV kvs k).isSome
 |[]=>rfl
 |p::r=>by
  rw[List.any_cons];by_cases e:p.1=k
  ·simp only[tK e,decide_eq_true e,Bool.true_or,Option.isSome_some]
  ·rw[tL e,decide_eq_false e,Bool.false_or];exact zJ k r
theorem sG(kvs:List (κ×V))(k:κ)(v:V):(putK kvs k v).length<=kvs.length+1:=by
 unfold putK;split
 ·rw[List.length_map];omega
 ·rw[List.length_append,List.length_cons,List.length_nil];omega
theorem RelO.isSome_eq{o:Option V}{u:Option Value}(r:RelO o u):o.isSome=u.isSome:=by
 cases o with
 |none=>cases u with
  |none=>rfl
  |some _=>exact(show False from r).elim
 |some _=>cases u with
  |none=>exact(show False from r).elim
  |some _=>rfl
theorem KV.val{kvs:List (κ×V)}{vs:List (κ×Value)}(r:KV kvs vs)(k:κ):RelO (valV kvs k) (valueAt vs k):=by
 unfold KV at r;induction r with
 |nil=>exact True.intro
 |@cons p q ps qs h t ih=>
  obtain⟨h1,h2⟩:=h;by_cases e:p.1=k
  ·have e':q.1=k:=h1.symm.trans e
   have b:valueAt (q::qs) k=some q.2:=by simp[valueAt,List.find?_cons,e']
   rw[tK e,b];exact h2
  ·have e':¬q.1=k:=fun z=>e (h1.trans z)
   have b:valueAt (q::qs) k=valueAt qs k:=by simp[valueAt,List.find?_cons,e']
   rw[tL e,b];exact ih
theorem KV.any{kvs:List (κ×V)}{vs:List (κ×Value)}(r:KV kvs vs)(k:κ):(kvs.any fun kv=>decide (kv.1=k))=vs.any fun kv=>decide (kv.1=k):=by
 unfold KV at r;induction r with
 |nil=>rfl
 |cons h t ih=>rw[List.any_cons,List.any_cons,ih,h.1]
theorem KV.repl{kvs:List (κ×V)}{vs:List (κ×Value)}(r:KV kvs vs)(k:κ){y:V}{u:Value}(ry:RelV y u):
  KV (kvs.map fun kv=>if kv.1=k then(kv.1,y) else kv) (vs.map fun kv=>if kv.1=k then(kv.1,u) else kv):=by
 unfold KV at r ⊢;induction r with
 |nil=>exact .nil
 |@cons p q ps qs h t ih=>
  rw[List.map_cons,List.map_cons];refine .cons ?_ ih;obtain⟨h1,h2⟩:=h;by_cases e:p.1=k
  ·rw[if_pos e,if_pos (h1.symm.trans e)];exact⟨h1,ry⟩
  ·rw[if_neg e,if_neg (fun z=>e (h1.trans z))];exact⟨h1,h2⟩
theorem KV.put{kvs:List (κ×V)}{vs:List (κ×Value)}(r:KV kvs vs)(k:κ){y:V}{u:Value}(ry:RelV y u):KV (putK kvs k y) (stored vs k u):=by
 unfold putK stored;rw[r.any k];by_cases e:(vs.any fun kv=>decide (kv.1=k))=true
 ·rw[if_pos e,if_pos e];exact r.repl k ry
 ·rw[if_neg e,if_neg e];exact Paired.snoc r ⟨rfl,ry⟩
theorem KV.keys{kvs:List (κ×V)}{vs:List (κ×Value)}(r:KV kvs vs):kvs.map (·.1)=vs.map (·.1):=by
 unfold KV at r;induction r with
 |nil=>rfl
 |cons h t ih=>rw[List.map_cons,List.map_cons,ih,h.1]
theorem KV.length{kvs:List (κ×V)}{vs:List (κ×Value)}(r:KV kvs vs):kvs.length=vs.length:=Paired.length r
end
theorem ul{P:Program}{w:World}{k:Key}{u:Value}(r:RelV (kV k) u):(bm P w).is k u=true:=by
 cases k with
 |inl i=>obtain⟨t,e⟩:=(show ∃t,u=Value.int i t from r);subst e;exact B0 P w i t
 |inr x=>obtain⟨t,e⟩:=(show ∃t,u=Value.str x t from r);subst e;exact Ca P w x t
theorem xZ{P:Program}{w:World}:∀{ks:List Key}{us:List Value},Vals (ks.map kV) us->ItemsAre (bm P w) ks us
 |[],_,r=>by rw[List.map_nil] at r;cases r;exact .nil
 |k::ks,_,r=>by
  rw[List.map_cons] at r;cases r with
  |cons h t=>exact .cons (ul h) (xZ t)
abbrev KT(H:Hp):List (List Key×V)->List (List Key×Addr×Value)->Prop:=Paired fun p q=>p.1=q.1/\H q.2.1=some (.tup (p.1.map kV))/\RelV p.2 q.2.2
theorem KT.val{H:Hp}{kvs:List (List Key×V)}{xs:List (List Key×Addr×Value)}(r:KT H kvs xs)(k:List Key):RelO (valV kvs k) ((atKey xs k).map (·.2)):=by
 induction r with
 |nil=>exact True.intro
 |@cons p q ps qs h t ih=>
  obtain⟨h1,_,h2⟩:=h;by_cases e:p.1=k
  ·have e':q.1=k:=h1.symm.trans e
   have b:atKey (q::qs) k=some q.2:=by simp[atKey,List.find?_cons,e']
   rw[tK e,b];exact h2
  ·have e':¬q.1=k:=fun z=>e (h1.trans z)
   have b:atKey (q::qs) k=atKey qs k:=by simp[atKey,List.find?_cons,e']
   rw[tL e,b];exact ih
theorem KT.repl{H:Hp}{kvs:List (List Key×V)}{xs:List (List Key×Addr×Value)}(r:KT H kvs xs)(k:List Key){y:V}{u:Value}(ry:RelV y u):
  KT H (kvs.map fun kv=>if kv.1=k then(kv.1,y) else kv) (xs.map (putAt k u)):=by
 induction r with
 |nil=>exact .nil
 |@cons p q ps qs h t ih=>
  rw[List.map_cons,List.map_cons];refine .cons ?_ ih;obtain⟨h1,h2,h3⟩:=h;unfold putAt;by_cases e:p.1=k
  ·rw[if_pos e,if_pos (h1.symm.trans e)];exact⟨h1,h2,ry⟩
  ·rw[if_neg e,if_neg (fun z=>e (h1.trans z))];exact⟨h1,h2,h3⟩
theorem KT.put{H:Hp}{kvs:List (List Key×V)}{xs:List (List Key×Addr×Value)}(r:KT H kvs xs)(k:List Key){b:Addr}{y:V}{u:Value}(hb:H b=some (.tup (k.map kV)))(ry:RelV y u):
  KT H (putK kvs k y) (storedH xs k b u):=by
 have e:(kvs.any fun kv=>decide (kv.1=k))=(atKey xs k).isSome:=by
  rw[zJ,(r.val k).isSome_eq,Option.isSome_map]
 unfold putK storedH;rw[e];by_cases q:(atKey xs k).isSome=true
 ·rw[if_pos q,if_pos q];exact r.repl k ry
 ·rw[if_neg q,if_neg q];exact Paired.snoc r ⟨rfl,hb,ry⟩
theorem KT.keeps{H H':Hp}{kvs:List (List Key×V)}{xs:List (List Key×Addr×Value)}(r:KT H kvs xs)(ht:∀b ys,H b=some (.tup ys)->H' b=some (.tup ys)):KT H' kvs xs:=
 Paired.mapP r fun _ _ z=>⟨z.1,ht _ _ z.2.1,z.2.2⟩
section
variable {P : Program} {w : World} {H : Hp} {h : Heap} {a : Addr}
theorem IC{u:HO}(ok:HOk P w H h)(e:Rd H a u):aY P w H h a u:=e.ok ok
theorem mC{kvs:List (Key×V)}(ok:HOk P w H h)(e:Rd H a (.dK kvs)):kvs.length<=sizeLine/\(a==sysModules)=false/\∃vs,KV kvs vs/\h.DictOf (bm P w) a vs:=
 show aY P w H h a (.dK kvs) from IC ok e
theorem ID{kvs:List (Key×V)}(ok:HOk P w H h)(e:H a=some (.dK kvs)):kvs.length<=sizeLine/\(a==sysModules)=false/\∃vs,KV kvs vs/\h.DictOf (bm P w) a vs:=mC ok (.inl e)
theorem qc{ks:List Key}(ok:HOk P w H h)(e:H a=some (.tup (ks.map kV))):(tupleKind (bm P w)).is h ks a:=by
 obtain⟨_,its,r,o,h1,h2,n,h3⟩:=(show aY P w H h a (.tup (ks.map kV)) from ok a _ e);exact⟨o,its.toArray,n,h1,h2,h3,by simpa using xZ r⟩
theorem um{kvs:List (List Key×V)}(ok:HOk P w H h)(e:Rd H a (.dT kvs)):kvs.length<=sizeLine/\(a==sysModules)=false /\
  ∃xs,KT H kvs xs/\h.DictOfH (tupleKind (bm P w)) a xs:=by
 obtain⟨z,y,xs,r,o,es,ep,h1,h2,h3,h4,h5⟩:=(show aY P w H h a (.dT kvs) from IC ok e);refine⟨z,y,xs,r,o,es,ep,h1,h2,h3,h4,fun x hx=>?_,h5⟩;have all:∀{l:List (List Key×V)}{m:List (List Key×Addr×Value)},KT H l m->∀x∈m,(tupleKind (bm P w)).is h x.1 x.2.1:=by
  intro l m q;induction q with
  |nil=>intro x hx;exact nomatch hx
  |@cons p q ps qs hq t ih=>
   intro x hx;rcases List.mem_cons.mp hx with e | hx
   ·subst e
    exact qc ok (by rw[←hq.1];exact hq.2.1)
   ·exact ih x hx
 exact all r x hx
theorem MF{kvs:List (List Key×V)}(ok:HOk P w H h)(e:H a=some (.dT kvs)):kvs.length<=sizeLine/\(a==sysModules)=false /\
  ∃xs,KT H kvs xs/\h.DictOfH (tupleKind (bm P w)) a xs:=um ok (.inl e)
end
def DGet(H:Hp)(a:Addr)(y:V)(r:Option V):Prop:=
 (∃kvs k,Rd H a (.dK kvs)/\y=kV k/\r=valV kvs k) \/ ∃kvs k b,Rd H a (.dT kvs)/\y=.ref b/\H b=some (.tup (k.map kV))/\r=valV kvs k
def DPut(H:Hp)(a:Addr)(y v:V)(H':Hp):Prop:=
 (∃kvs k,H a=some (.dK kvs)/\y=kV k/\kvs.length<sizeLine/\H'=upd H a (.dK (putK kvs k v))) \/
 ∃kvs k b,H a=some (.dT kvs)/\y=.ref b/\H b=some (.tup (k.map kV))/\kvs.length<sizeLine/\H'=upd H a (.dT (putK kvs k v))
theorem DGet.k{H:Hp}{a:Addr}{kvs:List (Key×V)}{k:Key}(e:H a=some (.dK kvs)):DGet H a (kV k) (valV kvs k):=.inl ⟨kvs,k,.inl e,rfl,rfl⟩
section
variable {X : Cx} {pins : List (Addr × Obj)} {σ : St} {H : Hp} {s : Shared} {a : Addr} {y v : V} {u r : Value} {o : Option V} {A : Around} {E : Value -> Shared -> Prop}
theorem Inv.big(I:Inv X pins σ H s):sysModules<s.heap.objs.size:=by
 have h:mainGlobals<s.heap.objs.size:=(I.mod.glob.keeps I.bk).lt;exact Nat.lt_trans (by decide) h
theorem FD{Q:Value->Shared->Prop}(hu:A.units+1<cLine)(I:Inv X pins σ H s)(g:DGet H a y (some v))(ry:RelV y u)(h:∀w' s',Inv X pins σ H s'->RelV v w'->Q w' s'):
  wpAny (model X.prog X.w) A (getItem (.ref a) u) Q E s:=by
 rcases g with⟨kvs,k,e,ey,l⟩ | ⟨kvs,k,b,e,ey,eb,l⟩
 ·subst ey
  obtain⟨z,hd,vs,rel,dd⟩:=mC I.hok e;obtain⟨w',hw,rw'⟩:=RelO.some_of (v:=v) (o:=valueAt vs k) (by rw[l];exact rel.val k);exact wpAny_getItem_of (ul ry) dd.mapOf hw (h w' _ (I.tok _) rw')
 ·subst ey
  cases(show u=Value.ref b from ry);obtain⟨z,hd,xs,rel,dd⟩:=um I.hok e;obtain⟨w',hw,rw'⟩:=RelO.some_of (v:=v) (o:=(atKey xs k).map (·.2)) (by rw[l];exact rel.val k);obtain⟨p,hp,hp2⟩:=Option.map_eq_some_iff.mp hw;refine wpAny_getItem_heap (tupleKind_room_in1 hu) (qc I.hok eb) dd hp ?_;rw[hp2];exact h w' _ (I.tok _) rw'
theorem d_in{Q:Value->Shared->Prop}(hu:A.units+1<cLine)(I:Inv X pins σ H s)(g:DGet H a y o)(ry:RelV y u)(h:∀s',Inv X pins σ H s'->Q (.bool o.isSome) s'):
  wpAny (model X.prog X.w) A (compareOp .In u (.ref a)) Q E s:=by
 rcases g with⟨kvs,k,e,ey,l⟩ | ⟨kvs,k,b,e,ey,eb,l⟩
 ·subst ey
  obtain⟨z,hd,vs,rel,dd⟩:=mC I.hok e;refine wpAny_in_of (ul ry) hd dd.mapOf ?_;rw[←(rel.val k).isSome_eq,←l];exact h _ (I.tok _)
 ·subst ey
  cases(show u=Value.ref b from ry);obtain⟨z,hd,xs,rel,dd⟩:=um I.hok e;refine wpAny_in_heap (tupleKind_room_in1 hu) (qc I.hok eb) hd dd ?_;have q:=(rel.val k).isSome_eq;rw[Option.isSome_map] at q;rw[←q,←l];exact h _ (I.tok _)
theorem Js{Q:Value->Shared->Prop}(hu:A.units+1<cLine)(I:Inv X pins σ H s)(g:DGet H a y o)(ry:RelV y u)(h:∀s',Inv X pins σ H s'->Q (.bool (!o.isSome)) s'):
  wpAny (model X.prog X.w) A (compareOp .NotIn u (.ref a)) Q E s:=by
 rcases g with⟨kvs,k,e,ey,l⟩ | ⟨kvs,k,b,e,ey,eb,l⟩
 ·subst ey
  obtain⟨z,hd,vs,rel,dd⟩:=mC I.hok e;refine wpAny_notIn_of (ul ry) hd dd.mapOf ?_;rw[←(rel.val k).isSome_eq,←l];exact h _ (I.tok _)
 ·subst ey
  cases(show u=Value.ref b from ry);obtain⟨z,hd,xs,rel,dd⟩:=um I.hok e;refine wpAny_notIn_heap (tupleKind_room_in1 hu) (qc I.hok eb) hd dd ?_;have q:=(rel.val k).isSome_eq;rw[Option.isSome_map] at q;rw[←q,←l];exact h _ (I.tok _)
theorem Ds{h':Heap}{t':Nat}{ob:HO}(I:Inv X pins σ H s)(mu:Mut (H a))(hs:Heap.SameBut a s.heap h')(he:∃q,h'.get? a=some q)(new:aY X.prog X.w (upd H a ob) h' a ob):
  Inv X pins σ (upd H a ob) { s with heap:=h',toks:=t' }:=
 I.write (x:=a) (e:=a) mu (.inl rfl) (fun b q hb z=>(hs.2 b hb).trans z) he new
theorem Lq{P:Program}{w:World}{H':Hp}{h':Heap}{kvs:List (Key×V)}{vs:List (Key×Value)}(z:kvs.length<=sizeLine)(hd:(a==sysModules)=false)(rel:KV kvs vs)(dd:h'.DictOf (bm P w) a vs):
  aY P w H' h' a (.dK kvs):=⟨z,hd,vs,rel,dd⟩
theorem FE{H':Hp}{Q:Unit->Shared->Prop}(hu:A.units+1<cLine)(I:Inv X pins σ H s)(g:DPut H a y v H')(ry:RelV y u)(rv:RelV v r)(h:∀s',Inv X pins σ H' s'->Q () s'):
  wpAny (model X.prog X.w) A (setItem (.ref a) u r) Q E s:=by
 rcases g with⟨kvs,k,e,ey,l,eH⟩ | ⟨kvs,k,b,e,ey,eb,l,eH⟩
 ·subst ey eH
  obtain⟨z,hd,vs,rel,dd⟩:=ID I.hok e;have hz:vs.length<=sizeLine:=by rw[←rel.length];exact z
  have hl:(putK kvs k v).length<=sizeLine:=by have:=sG kvs k v;omega
  refine wpAny_setItem_pairs (hsz:=hz) (ul ry) dd fun h' dd' hs=>h _ ?_
  have he:∃q,h'.get? a=some q:=let⟨q,_,_,hq,_⟩:=dd';⟨q,hq⟩;exact Ds I (by rw[e];exact True.intro) hs he (Lq hl hd (rel.put k rv) dd')
 ·subst ey eH
  cases(show u=Value.ref b from ry);obtain⟨z,hd,xs,rel,dd⟩:=MF I.hok e;have hz:xs.length<=sizeLine:=by rw[←Paired.length rel];exact z
  have hl:(putK kvs k v).length<=sizeLine:=by have:=sG kvs k v;omega
  refine wpAny_setItem_heap (hsz:=hz) (tupleKind_room_in1 hu) (qc I.hok eb) dd fun h' dd' hs=>h _ ?_
  obtain⟨q,es,ep,hq,h2,h3,h4,_,h5⟩:=dd';refine Ds I (by rw[e];exact True.intro) hs ⟨q,hq⟩ ⟨hl,hd,_,(rel.put k eb rv).keeps fun c ys ec=>?_,q,es,ep,hq,h2,h3,h4,h5⟩;rw[aI (Md ec e (fun z=>nomatch z))];exact ec
end
section
variable {X : Cx} {pins : List (Addr × Obj)} {σ : St} {H : Hp} {s : Shared} {a : Addr} {kvs : List (Key × V)} {k : Key} {u : Value} {A : Around} {E : Value -> Shared -> Prop}
theorem IE{Q:Value->Shared->Prop}(I:Inv X pins σ H s)(e:Rd H a (.dK kvs))(h:∀t s',Inv X pins σ H s'->Q (.int kvs.length t) s'):wpAny (model X.prog X.w) A (call (.builtin "len") [.ref a]) Q E s:=by
 obtain⟨z,hd,vs,rel,dd⟩:=mC I.hok e;refine call_len_dict hd dd (by rw[←rel.length];rw[sizeLine_eq] at z;omega) ?_;rw[←rel.length];exact h _ _ (I.tok _)
end
theorem Cb{X:Cx}{pins:List (Addr×Obj)}{σ:St}{H:Hp}{s:Shared}{a:Addr}{y:V}{o:Option V}(I:Inv X pins σ H s)(g:DGet H a y o):s.TypeIs (.ref a) "dict":=by
 rcases g with⟨kvs,k,e,_,_⟩ | ⟨kvs,k,b,e,_,_,_⟩
 ·obtain⟨_,_,vs,_,dd⟩:=mC I.hok e
  exact dd.typeIs
 ·obtain⟨_,_,xs,_,dd⟩:=um I.hok e
  exact dd.typeIs
theorem He{P:Program}{w:World}{H:Hp}(h:Heap)(hb:sysModules<h.objs.size):aY P w H (h.push { cls:=.type "dict",data:=.dict #[] }) h.objs.size (.dK []):=
 ⟨Nat.zero_le _,beq_eq_false_iff_ne.mpr (Ne.symm (Nat.ne_of_lt hb)),[],.nil,Heap.DictOf.new h⟩
def Lr:TE:=fun _ H Q=>∀p,H p=none->Q (.ref p) (upd H p (.dK []))
section
variable {X : Cx} {pos : Pos}
theorem Hf:PE X (.Dict [] [] pos) Lr:=fun pins s σ H Q I h=>
 wpAny_Dict_empty ⟨.ref s.heap.objs.size,_,I.laid (a:=s.heap.objs.size) (o:=.dK []) (t':=s.toks) (fun _ _ q=>Heap.get?_push_of_some _ q) (Nat.le_refl _) (He s.heap I.big),rfl,h _ (I.hok.fresh (Nat.le_refl _))⟩
end
structure M1 (X:Cx) (o:Expr) (m:Str) (apos:Pos) (e:Expr) (cpos:Pos):Prop where
 base:attributeBase o m X.env (eval o X.env)=eval o X.env
 few:((backTo cpos (starEach [e] X.env)).all (fun x=>!x.1)&&(backToKw cpos (keywordEach [] X.env)).all (fun x=>x.1.isSome)
  && decide (([e]:List Expr).length+([]:List Keyword).length+(if([]:List Keyword).isEmpty then 0 else 1)<30))=true
 line:(apos.endLine==cpos.line)=true
 trees:backTo cpos (starEach [e] X.env)=[(false,eval e X.env)]
structure M2 (X:Cx) (o:Expr) (m:Str) (apos:Pos) (e f:Expr) (cpos:Pos):Prop where
 base:attributeBase o m X.env (eval o X.env)=eval o X.env
 few:((backTo cpos (starEach [e,f] X.env)).all (fun x=>!x.1)&&(backToKw cpos (keywordEach [] X.env)).all (fun x=>x.1.isSome)
  && decide (([e,f]:List Expr).length+([]:List Keyword).length+(if([]:List Keyword).isEmpty then 0 else 1)<30))=true
 line:(apos.endLine==cpos.line)=true
 trees:backTo cpos (starEach [e,f] X.env)=[(false,eval e X.env),(false,eval f X.env)]
end L2
namespace Att
open PySem PySem.W PySem.Calls PyProof.Rows
theorem uo{P:Params}{h:Heap}:∀(ns:List Int) (vs:List Value),WellAll P h vs (ns.map WData.int)->IntsAre vs ns:=by
 intro ns;induction ns with
 |nil=>
  intro vs w;rw[List.map_nil] at w;cases w;exact .nil
 |cons n ns ih=>
  intro vs w;rw[List.map_cons] at w;cases w with
  |cons a b=>
   cases a;exact .cons _ _ (ih _ b)
theorem FF{l:OpenLaw}{n:Nat}(hn:l.most=some n){P:Params}{h:Heap}{args:List WData}{vals:List Value}
  (hpre:l.row.toRowW.claim.pre args=true) (hwl:WellAll P h vals args):
  ∃a vs ns,vals=[Value.ref a]/\args=[WData.list (ns.map WData.int)]/\h.get? a=some { cls:=.type "list",data:=.seq vs.toArray }/\IntsAre vs ns/\ns.length<=n:=by
 have hsh:WShape.hasAll [] args [.list .int]=true:=(pre_splitW hpre).1;have hc:l.pre.holds [] { args:=args }=true:=(pre_splitW hpre).2;obtain⟨d,r,rfl,h1,h2⟩:=hasAllW_cons hsh;obtain rfl:=hasAllW_nil h2;obtain⟨xs,rfl,h3⟩:=hasW_list h1;obtain⟨ns,rfl⟩:=items_int h3;have hlen:ns.length<=n:=by
  unfold OpenLaw.pre at hc;have h4:(WTm.not (.lt (.lit (.int (n:Int))) (.len (.arg 0)))).holds [] { args:=[.list (ns.map .int)] }=true:=by
   have h4:=(holds_andW hc).1;rw[hn] at h4;exact h4
  have h5:=condW_of h4 (w_not (w_lt w_lit (w_len_list (w_arg rfl))));rw[List.length_map] at h5;refine Nat.le_of_not_lt fun q=>?_
  have q':(n:Int)<((ns.length:Nat):Int):=by omega
  first
   |(rw[decide_eq_true q'] at h5;exact absurd h5 (by decide))
   |(simp at h5;omega)
 cases hwl with
 |cons w1 w2=>
  cases w2;cases w1 with
  |list ho hall=>exact⟨_,_,ns,rfl,rfl,ho,uo ns _ hall,hlen⟩
theorem FG(l:OpenLaw)(args:List WData):l.row.toRowW.claim.post args (.bool true) args=true:=
 postW_of (r:=l.row.toRowW) (X:=(true==true))
  (show WShape.has [] (.bool true) .bool=true by first | rfl | decide | simp[WShape.has,WShape.arms,WShape.armsAll])
  (show(WTm.eq .res (.lit (.bool true))).value [] { args:=args,res:=some (.bool true),after:=args }=some (.bool (true==true)) from w_eq_bool (w_res rfl) w_lit) rfl
theorem Cc{l:OpenLaw}{n:Nat}{q:Program}{loose:List Str}{XP:(Str->Option Value)->Heap->Prop}{YP:World->Heap->Prop}{d:DefRec}
  (hn:l.most=some n) (hdf:d.params.defaults=[])
  (call:∀(w:World) (s₀ s₁:Shared) (mg mb:Str->Option Value) (fa:Addr) (o:Obj) (pm cd doc:Value) (a:Addr) (vs:List Value) (ns:List Int),
   Ground q loose [] XP w s₀ mg mb s₁.heap->YP w s₁.heap ->
   s₁.heap.get? fa=some o->o.data=.func (docDef d.name d.params d.body d.scope pm cd doc)->s₁.heap.CodeRec cd d.name->mg d.name=some (.ref fa) ->
   s₁.heap.get? a=some { cls:=.type "list",data:=.seq vs.toArray }->IntsAre vs ns->ns.length<=n->s₁.gens = #[] ->
   codeAny (model l.prog w) callerA (.call (.ref fa) ⟨[.ref a],[]⟩) (fun r s'=>r=.ok (.ret (.bool true))/\OldK s₁.heap s'.heap/\s'.os=s₁.os/\AllBare s'.gens) s₁):
  WalkO q loose XP YP l.row.toRowW d [] (fun f vs=>PySem.call f vs):=by
 intro w s₀ s₁ mg mb G Y fa o pm cd doc dV kV ho hd hcd hD hmg hg args vals as hpre hlay hrd hwl hlo;obtain rfl:dV=.none:=Dflts.none hD hdf;obtain rfl:kV=.none:=Dflts.noKw hD;obtain⟨a,vs,ns,rfl,rfl,hobj,hints,hlen⟩:=FF hn hpre hwl;refine enter_call (codeAny_mono (call w s₀ s₁ mg mb fa o pm cd doc a vs ns G Y ho (fd_plain hd) hcd hmg hobj hints hlen hg) fun r s' hq=>?_);obtain⟨rfl,h2,h3,h4⟩:=hq;exact⟨.inl ⟨.bool true,.bool true,[],rfl,fun _=>rfl,.bool true,FG l _,fun _=>⟨List.Pairwise.nil,fun _ hm=>(nomatch hm)⟩⟩,h2,h3,h4⟩
section
variable {prog : Program} {w : World} {A : Around} {E : Value -> Shared -> Prop} {s : Shared} {K : Frag}
end
end Att
namespace L2
open PySem PySem.Spec PyProof.Rows
theorem x0:∀{vs:List Value}{ns:List Int},IntsAre vs ns->Vals (ns.map V.int) vs
 |_,_,.nil=>.nil
 |_,_,.cons n t h=>.cons ⟨t,rfl⟩ (x0 h)
def Only(H:Hp):Prop:=∀b,H b=none \/ ∃o xs,H b=some (.frz o (.lst xs))
theorem Hg{P:Program}{w:World}{K:PySem.W.Frag}{mg mb:Str->Option Value}{CX:CXT}{k:Nat}{fa a:Addr}{fd:FuncData}{x:Str}{sp:Sp}{s₁:Shared}{vs:List Value}{ns:List Int}
  (KX:K.In s₁.heap) (hns:s₁.heap.Ns mainGlobals mg) (hb:s₁.heap.Ns builtinsNs mb) (hbb:∀x:Str,x ≠ "__name__"->mb x=bootBuiltins x) (hlim:s₁.heap.NoLimit) (hg:s₁.gens = #[])
  (ha:s₁.heap.get? a=some { cls:=.type "list",data:=.seq vs.toArray }) (hi:IntsAre vs ns) (hl:ns.length<=sizeLine) (hr:Room k callerA)
  (F:∀base:Heap,K.In base->base.Ns mainGlobals mg->FnOk P w K mg base CX k fa fd [x] sp) (hbind:∀(s:Shared) (u:Value),BindsTo s fd ⟨[u],[]⟩ [(x,u)])
  (hsp:∀H:Hp,Only H->SqL K H a (ns.map V.int)->sp [.ref a] H (fun v _=>v=.bl true) fun _ _ _=>False)
  (hCX:∀H e s',CX [] H s₁ (fun _ _ _=>False) e s'->False):
  codeAny (model P w) callerA (.call (.ref fa) ⟨[.ref a],[]⟩) (fun r s'=>r=.ok (.ret (.bool true))/\OldK s₁.heap s'.heap/\s'.os=s₁.os/\AllBare s'.gens) s₁:=by
 have rv:=x0 hi;have lenV:=hi.length
 -- from an abstract heap in which nothing but the script may be tracked
 have core:∀H:Hp,Only H->SqL K H a (ns.map V.int)->HOk P w H s₁.heap->(∀b,H b≠none->b=a)->(H a≠none->K.lookup a=none) ->
   codeAny (model P w) callerA (.call (.ref fa) ⟨[.ref a],[]⟩) (fun r s'=>r=.ok (.ret (.bool true))/\OldK s₁.heap s'.heap/\s'.os=s₁.os/\AllBare s'.gens) s₁:=by
  intro H hO hS hok hA hK;have base_of:∀{b:Addr}{o:Obj},s₁.heap.get? b=some o->H b=none->(hidT s₁.heap H).get? b=some o:=fun e n=>GV e n
  have noA:∀{b:Addr}{o:Obj}{es:Array DictEntry}{ep:Nat},s₁.heap.get? b=some o->o.data=.dict es ep->H b=none:=fun {b o es ep} e d=>by
   cases q:H b with
   |none=>rfl
   |some u=>
    have e':b=a:=hA b (by rw[q];simp);subst e';rw[ha] at e;cases e;have d':Data.seq vs.toArray _=Data.dict es ep:=d;cases d'
  have nsK:∀{b:Addr}{m:Str->Option Value},s₁.heap.Ns b m->(hidT s₁.heap H).Ns b m:=fun {b m} ⟨o,es,ep,e,d,r⟩=>⟨o,es,ep,base_of e (noA e d),d,r⟩
  have hKb:K.In (hidT s₁.heap H):=fun b o e=>base_of (KX b o e) (by
   cases q:H b with
   |none=>rfl
   |some u=>
    have e':b=a:=hA b (by rw[q];simp);subst e';rw[hK (by rw[q];simp)] at e;cases e)
  have hM:Mod K mg (hidT s₁.heap H):=⟨hKb,nsK hns,⟨mb,nsK hb,hbb⟩,let⟨mc,h1,h2⟩:=hlim;⟨mc,nsK h1,h2⟩⟩;have e0:Env0 P w K mg (hidT s₁.heap H) callerA [] s₁ H:=⟨rfl,hM,fun b o e=>IR e,Nat.le_of_eq (Fp _ _),trivial,fun b hb=>absurd (show b∈([]:List Addr) from hb) (by simp),hok,.of_eq hg⟩;refine codeAny_mono ((F _ hKb (nsK hns)).run callerA [] s₁ H ⟨[.ref a],[]⟩ [.ref a] [.ref a] _ _ hr e0 (hbind s₁ (.ref a)) (.cons rfl .nil) (hsp H hO hS)) fun r s' h=>?_
  cases r with
  |error e=>exact(hCX H e s' h).elim
  |ok fl=>
   cases fl with
   |next=>exact False.elim h
   |brk=>exact False.elim h
   |cont=>exact False.elim h
   |ret u=>
    obtain⟨v,H',os,bare,un,hok',r',q⟩:=h;have q':v=.bl true:=q;subst q';obtain rfl:u=Value.bool true:=r';refine⟨rfl,OldK.of_keep fun b o e=>?_,os,bare⟩;cases q:H b with
    |none=>exact un.keep b o e q (by intro z;exact absurd (show b∈([]:List Addr) from z) (by simp)) (by simp)
    |some u=>
     rcases hO b with z | ⟨ob,xs,z⟩
     ·rw[q] at z;cases z
     ·have z2:=un.frzs b ob _ z
      obtain⟨e1,_⟩:=hok b _ z;obtain⟨e2,_⟩:=hok' b _ z2;rw[e] at e1;cases e1;exact e2
 cases hk:K.lookup a with
 |some o=>
  -- the script is one of the module's own objects
  have e:=KX a o hk;rw[ha] at e;cases e;refine core (fun _=>none) (fun _=>.inl rfl) (.inr ⟨_,vs.toArray,_,hk,rfl,rfl,rfl,by rw[List.size_toArray,lenV];exact hl,by simpa using rv⟩) (fun b u z=>by have z':(none:Option HO)=some u:=z;cases z') (fun b z=>absurd rfl z) fun z=>absurd rfl z
 |none=>
  refine core (fun b=>if b=a then some (.frz { cls:=.type "list",data:=.seq vs.toArray } (.lst (ns.map V.int))) else none) (fun b=>?_) (.inl (.inr ⟨{ cls:=.type "list",data:=.seq vs.toArray },if_pos rfl⟩)) (fun b u z=>?_) (fun b z=>?_) fun _=>hk
  ·by_cases hb:b=a
   ·exact .inr ⟨_,_,if_pos hb⟩
   ·exact .inl (if_neg hb)
  ·by_cases hb:b=a
   ·have z':=(if_pos hb).symm.trans z
    cases z';subst hb;exact⟨ha,by rw[List.length_map];exact hl,vs,_,rv,ha⟩
   ·have z':=(if_neg hb).symm.trans z
    cases z'
  ·by_cases hb:b=a
   ·exact hb
   ·exact absurd (if_neg hb) z
end L2
namespace L2
open PySem PySem.Spec PyProof.Rows
theorem Jt{l:PySem.W.OpenLaw}{n k:Nat}{q:Program}{loose:List Str}{XP:(Str->Option Value)->Heap->Prop}{YP:World->Heap->Prop}{d:DefRec}{K:Params->PySem.W.Frag}{CX:World->CXT}{sp:World->Sp}{x:Str}
  (hn:l.most=some n) (hn2:n<=sizeLine) (hdf:d.params.defaults=[]) (hr:Room k callerA)
  (hY:∀(w:World) (h:Heap),YP w h->(K w.params).In h)
  (F:∀(w:World) (mg:Str->Option Value) (fa:Addr) (h:Heap),(K w.params).In h->h.Ns mainGlobals mg->mg d.name=some (.ref fa) ->
   ∃fd:FuncData,(∀(s:Shared) (u:Value),BindsTo s fd ⟨[u],[]⟩ [(x,u)]) /\
    ∀base:Heap,(K w.params).In base->base.Ns mainGlobals mg->FnOk l.prog w (K w.params) mg base (CX w) k fa fd [x] (sp w))
  (hsp:∀(w:World) (H:Hp) (a:Addr) (ns:List Int),ns.length<=n->Only H->SqL (K w.params) H a (ns.map V.int)->sp w [.ref a] H (fun v _=>v=.bl true) fun _ _ _=>False)
  (hCX:∀(w:World) (H:Hp) (s:Shared) (e:Value) (s':Shared),CX w [] H s (fun _ _ _=>False) e s'->False):
  PySem.W.WalkO q loose XP YP l.row.toRowW d [] (fun f vs=>PySem.call f vs):=by
 refine Att.Cc hn hdf fun w s₀ s₁ mg mb fa o pm cd doc a vs ns G Y ho hd hcd hmg hobj hints hlen hg=>?_
 have KX:=hY w _ Y;obtain⟨fd,hb,hF⟩:=F w mg fa _ KX G.T.g hmg;exact Hg KX G.T.g G.T.b G.T.builtins G.T.nolimit hg hobj hints (Nat.le_trans hlen hn2) hr hF hb (fun H hO hS=>hsp w H a ns hlen hO hS) fun H e s'=>hCX w H s₁ e s'
end L2
namespace L2
open PySem PySem.Spec PyProof.Rows
def inClass(s:Stmt)(j:Nat):Stmt:=match s with
 |.ClassDef _ _ _ body _ _ _ _ _ _ _=>body.getD j (.Pass ⟨0,0,0,0⟩)
 |_=>.Pass ⟨0,0,0,0⟩
def bM(s:Stmt):Arguments:=match s with
 |.FunctionDef _ a _ _ _ _ _ _ _ _=>a
 |_=>{ posonlyargs:=[],args:=[],vararg:=none,kwonlyargs:=[],kw_defaults:=[],kwarg:=none,defaults:=[] }
def ae(s:Stmt):List Stmt:=match s with
 |.FunctionDef _ _ b _ _ _ _ _ _ _=>b
 |_=>[]
def aa(s:Stmt):Scope:=match s with
 |.FunctionDef _ _ _ _ _ _ sc _ _ _=>sc
 |_=>{ kind:=.function,names:=[],isGenerator:=false,isCoroutine:=false }
abbrev CX0:CXT:=fun _ _ _ _ _ _=>False
abbrev E0:XK:=fun _ _ _=>False
theorem zo{X:Cx}:qa CX0 X E0:=fun _ _ _ _ _ _ _ h=>h.elim
structure Fun (K:PySem.W.Frag) (x qual:Str) (st:Stmt) (f:Addr) (fd:FuncData):Prop where
 ex:∃(oc:Value) (od:Option Addr) (kV doc pm:Value) (an:Option Addr) (cdv ct:Value) (osl:Array (Option Value)),
  fd=PySem.W.fnOf x qual (bM st) (ae st) (aa st) .none kV doc pm an cdv ct/\K.lookup f=some ⟨oc,od,.func fd,osl⟩/\PySem.W.codeIn K cdv qual=true
 kp:PySem.W.keepIn K (.ref f)=true
section
variable {P : Program} {w : World} {K : PySem.W.Frag} {mg : Str -> Option Value} {base : Heap}
theorem Fun.ok{x qual:Str}{st:Stmt}{f:Addr}{fd:FuncData}{N ps:List Str}{k:Nat}{sp:Sp}(F:Fun K x qual st f fd)(S:FnScope N ps (aa st))(len:∀vs H Q E,sp vs H Q E->vs.length=ps.length)
  (hbody:∀(cdv:Value) (A:Around) (outer:List Env) (s:Shared) (H:Hp) (vs:List V) (Q:VK) (E:XK),Room k (A.deeper (envOfC qual (aa st) s.heap.objs.size f cdv))->sp vs H Q E ->
   ∃t,PSs (cxOf CX0 P w K mg base N qual (aa st) f cdv A outer s H E).nox (ae st) t/\t { nx:=fun _ H'=>Q .non H',rt:=Q } (start N vs) H):FnOk P w K mg base CX0 (k+1) f fd ps sp:=by
 obtain⟨oc,od,kV,doc,pm,an,cdv,ct,osl,rfl,lk,hcd⟩:=F.ex;refine My lk hcd S len fun A outer s H vs Q E hr hsp=>?_
 obtain⟨t,h,q⟩:=hbody cdv A outer s H vs Q E hr hsp;exact⟨t,h.nox,q⟩
theorem Fun.binds{x qual:Str}{st:Stmt}{f:Addr}{fd:FuncData}{ps:List Str}(F:Fun K x qual st f fd)
  (h:∀(kV doc pm:Value) (an:Option Addr) (cdv ct:Value) (us:List Value),us.length=ps.length->bindArgs (PySem.W.fnOf x qual (bM st) (ae st) (aa st) .none kV doc pm an cdv ct) ⟨us,[]⟩=pure (ps.zip us)):Binds K fd ps []:=by
 obtain⟨oc,od,kV,doc,pm,an,cdv,ct,osl,rfl,lk,hcd⟩:=F.ex;exact .all (h kV doc pm an cdv ct)
theorem zK{x qual:Str}{st:Stmt}{f:Addr}{oc:Value}{od an:Option Addr}{osl:Array (Option Value)}{kV doc pm cdv ct:Value}(l:K.lookup f=some ⟨oc,od,.func (PySem.W.fnOf x qual (bM st) (ae st) (aa st) .none kV doc pm an cdv ct),osl⟩)
  (c:PySem.W.codeIn K cdv qual=true) (k:PySem.W.keepIn K (.ref f)=true):Fun K x qual st f (PySem.W.fnOf x qual (bM st) (ae st) (aa st) .none kV doc pm an cdv ct):=⟨⟨oc,od,kV,doc,pm,an,cdv,ct,osl,rfl,l,c⟩,k⟩
end
theorem x4{n:Nat}(h:n<=1000):n<sizeLine:=Nat.lt_of_le_of_lt h (by decide)
section
variable {X : Cx}
theorem FH:gm X (.builtin "len") (fun xs H Q=>∃a kvs,xs=[V.ref a]/\H a=some (.dK kvs)/\Q (.int kvs.length) H):=by
 intro pins s σ H xs us Q I r h;obtain⟨a,kvs,rfl,ha,q⟩:=h;obtain⟨u,rfl,ru⟩:=vals1 r;cases ru;exact IE I (.inl ha) fun t s' I'=>⟨.int kvs.length,H,I',⟨t,rfl⟩,q⟩
end
end L2
namespace L2
open PySem PySem.Spec PyProof.Rows
def ky(cells:List (Str×Addr)):List (Str×NameKind)->List (Str×Addr)->List (Str×Addr)
 |[],acc=>acc
 |(n,k)::r,acc=>ky cells r (if k==.free then(n,(cells.lookup n).getD 0)::acc else acc)
def clOf(scope:Scope)(env:Env):List (Str×Addr):=ky env.cells scope.names []
theorem yF{scope:Scope}{env:Env}(h:∀x∈scope.names,x.2=.free->∃c,env.cells.lookup x.1=some c):closureFor scope env=pure (clOf scope env):=by
 have key:∀(l:List (Str×NameKind)) (acc:List (Str×Addr)),(∀x∈l,x.2=.free->∃c,env.cells.lookup x.1=some c) ->
   (forIn l acc fun(x:Str×NameKind) (cs:List (Str×Addr))=>
    (if x.2==.free then(do let c ←cellOf env x.1;pure (ForInStep.yield ((x.1,c)::cs))) else pure (ForInStep.yield cs):Sem (ForInStep (List (Str×Addr)))))=pure (ky env.cells l acc):=by
  intro l;induction l with
  |nil=>intro acc _;rfl
  |cons x r ih=>
   intro acc hx;obtain⟨n,k⟩:=x;have hr:=ih (if k==.free then(n,(env.cells.lookup n).getD 0)::acc else acc) fun y hy=>hx y (List.mem_cons_of_mem _ hy)
   rw[List.forIn_cons];by_cases hk:k=.free
   ·subst hk
    obtain⟨c,hc⟩:=hx (n,.free) List.mem_cons_self rfl;have e:cellOf env n=pure c:=by unfold cellOf;rw[hc]
    have hc':env.cells.lookup n=some c:=hc;simp only[beq_self_eq_true,if_true,hc',Option.getD_some] at hr;simp only[beq_self_eq_true,if_true,e,pure_bind];rw[hr];simp only[ky,beq_self_eq_true,if_true,hc',Option.getD_some]
   ·have hb:(k==NameKind.free)=false:=by simpa using hk
    simp only[hb,Bool.false_eq_true,if_false] at hr;simp only[hb,Bool.false_eq_true,if_false,pure_bind];rw[hr];simp only[ky,hb,Bool.false_eq_true,if_false]
 have:=key scope.names [] h
 unfold closureFor clOf;simp only[bind_pure];exact this
theorem uq{cells:List (Str×Addr)}:∀{l:List (Str×NameKind)}{acc:List (Str×Addr)}{p:Str×Addr},p∈ky cells l acc->p∈acc\/((p.1,NameKind.free)∈l/\p.2=(cells.lookup p.1).getD 0)
 |[],_,_,h=>.inl h
 |(n,k)::r,acc,p,h=>by
  rcases uq (l:=r) h with q | ⟨q1,q2⟩
  ·by_cases hk:k=.free
   ·subst hk
    simp only[beq_self_eq_true,if_true] at q;rcases List.mem_cons.mp q with e | q
    ·subst e;exact .inr ⟨List.mem_cons_self,rfl⟩
    ·exact .inl q
   ·have hb:(k==NameKind.free)=false:=by simpa using hk
    simp only[hb,Bool.false_eq_true,if_false] at q;exact .inl q
  ·exact .inr ⟨List.mem_cons_of_mem _ q1,q2⟩
theorem ur{cells:List (Str×Addr)}:∀{l:List (Str×NameKind)}{acc:List (Str×Addr)}{p:Str×Addr},p∈acc->p∈ky cells l acc
 |[],_,_,h=>h
 |(n,k)::r,acc,p,h=>by
  refine ur (l:=r) ?_;split
  ·exact List.mem_cons_of_mem _ h
  ·exact h
theorem ut{cells:List (Str×Addr)}:∀{l:List (Str×NameKind)}{acc:List (Str×Addr)}{n:Str},(n,NameKind.free)∈l->∃c,(n,c)∈ky cells l acc
 |(m,k)::r,acc,n,h=>by
  rcases List.mem_cons.mp h with e | h
  ·cases e
   exact⟨_,ur (l:=r) (by simp only[beq_self_eq_true,if_true];exact List.mem_cons_self)⟩
  ·exact ut (l:=r) h
theorem kz{β:Type}:∀{l:List (Str×β)}{n:Str}{c:β},(n,c)∈l->∃d,l.lookup n=some d
 |(m,d)::r,n,c,h=>by
  rcases List.mem_cons.mp h with e | h
  ·cases e;exact⟨d,by simp[List.lookup_cons]⟩
  ·cases hb:n==m with
   |true=>exact⟨d,by simp[List.lookup_cons,hb]⟩
   |false=>
    obtain⟨d',e⟩:=kz (l:=r) h;exact⟨d',by simp[List.lookup_cons,hb,e]⟩
theorem kA{scope:Scope}{env:Env}(h:∀x∈scope.names,x.2=.free->∃c,env.cells.lookup x.1=some c){y:Str}{c:Addr}(e:(clOf scope env).lookup y=some c):env.cells.lookup y=some c:=by
 have m:=PySem.mem_of_lookup e;rcases uq m with z | ⟨z1,z2⟩
 ·cases z
 ·obtain⟨c',hc'⟩:=h _ z1 rfl
  have hc'':env.cells.lookup y=some c':=hc';have z2':c=(env.cells.lookup y).getD 0:=z2;rw[hc''] at z2';rw[hc'',z2'];rfl
theorem FI{scope:Scope}{env:Env}(h:∀x∈scope.names,x.2=.free->∃c,env.cells.lookup x.1=some c){y:Str}{c:Addr}(hy:(y,NameKind.free)∈scope.names)(e:env.cells.lookup y=some c):
  (clOf scope env).lookup y=some c:=by
 obtain⟨c',m⟩:=ut (cells:=env.cells) (acc:=[]) hy;obtain⟨d,q⟩:=kz m;have q':(clOf scope env).lookup y=some d:=q
 have:=kA h q'
 rw[e] at this;rw[q',←this]
theorem gp{env:Env}:∀{names:List (Str×NameKind)}{x:Str},
  (names.map fun(n,k)=>if(k==NameKind.free&&env.scope.kind==.function&&env.kindOf n==some .cell) then(n,NameKind.cell) else(n,k)).lookup x =
   (names.lookup x).map fun k=>if(k==NameKind.free&&env.scope.kind==.function&&env.kindOf x==some .cell) then NameKind.cell else k
 |[],_=>rfl
 |(n,k)::r,x=>by
  have ih:=@gp env r x;show List.lookup x ((if(k==NameKind.free&&env.scope.kind==.function&&env.kindOf n==some .cell)=true then(n,NameKind.cell) else(n,k))::_)=_;cases hx:x==n with
  |true=>
   have e:x=n:=by simpa using hx
   subst e;by_cases hc:(k==NameKind.free&&env.scope.kind==.function&&env.kindOf x==some .cell)=true
   ·rw[if_pos hc];simp only[List.lookup_cons,beq_self_eq_true,Option.map_some];rw[if_pos hc]
   ·rw[if_neg hc];simp only[List.lookup_cons,beq_self_eq_true,Option.map_some];rw[if_neg hc]
  |false=>
   by_cases hc:(k==NameKind.free&&env.scope.kind==.function&&env.kindOf n==some .cell)=true
   ·rw[if_pos hc];simp only[List.lookup_cons,hx];exact ih
   ·rw[if_neg hc];simp only[List.lookup_cons,hx];exact ih
structure CompScope (osc scope:Scope) (N own N2:List Str):Prop where
 kind:scope.kind=.function
 nocell:∀y∈scope.names,y.2≠.cell
 names:∀y∈scope.names,y.2=.local->scope.names.lookup y.1=some .local
 free:∀y∈scope.names,y.2=.free->(osc.names.lookup y.1=some .cell\/osc.names.lookup y.1=some .free)
 len:N2.length=N.length
 vis:∀p∈N2.zip N,(scope.names.lookup p.1=some .free->p.1=p.2)/\scope.names.lookup p.1≠some .local
def cxC(X:Cx)(scope:Scope)(own N2:List Str)(C:Addr)(s:Shared)(H:Hp)(ex:List Addr)(pn:List (Addr×Obj)):Cx where
 prog:=X.prog
 w:=X.w
 K:=X.K
 mg:=X.mg
 base:=X.base
 A:=X.A
 N:=N2++own
 s₀:=s
 H₀:=H
 env:=compEnvC scope (clOf scope X.env) C X.env
 outer:=X.stack
 stack:=X.stack
 ex:=ex
 calm:=X.calm
 fn:=fun _=>false
 pn:=pn
 xe:=fun _ _=>False
theorem Un.track{fs ex:List Addr}{H H':Hp}{h h':Heap}{a:Addr}{o:HO}(u:Un fs ex H H' h h')(hp:h.objs.size<=a)(hn:H a=none):Un fs ex H (upd H' a o) h h' where
 keep:=u.keep
 slot:=u.slot
 free:=fun b ob q n hx=>by rw[aI (Nat.ne_of_lt (Nat.lt_of_lt_of_le (Heap.lt_size q) hp))];exact u.free b ob q n hx
 there:=u.there
 tups:=fun b xs q=>by rw[aI (ba q hn)];exact u.tups b xs q
 frzs:=fun b ob xs q=>by rw[aI (ba q hn)];exact u.frzs b ob xs q
 tbls:=fun b ps q=>by rw[aI (ba q hn)];exact u.tbls b ps q
def PTs(X:Cx)(ifs:List Expr)(t:TT):Prop:=
 ∀(pins:List (Addr×Obj)) (s:Shared) (σ:St) (H:Hp) (Q:Bool->Hp->Prop),Inv X pins σ H s->t σ H Q ->
  wpAny (model X.prog X.w) X.A (forIn ifs true fun c r=>if r=true then do let ok ←isTrue c X.env (eval c X.env);pure (ForInStep.yield ok) else pure (ForInStep.yield r)) (TP X pins σ Q) X.xe s
def tYes:TT:=fun _ H Q=>Q true H
theorem Ju{X:Cx}:PTs X [] tYes:=fun _ _ _ H _ I h=>wpAny_tests_nil ⟨H,I,h⟩
theorem Jv{X:Cx}{c:Expr}{t:TT}(h:PT X c t):PTs X [c] t:=fun pins s σ H Q I q=>wpAny_tests_one (h pins s σ H Q I q)
def zq(J:It)(g:TG)(tc:TT)(te:TE)(Fin:List V->Hp->Prop)(σ0:St)(H1:Hp):Prop:=
 ∃W:Nat->Nat->List V->St->Hp->Prop,(∃m,W 0 m [] σ0 H1)/\∀i m ys σ H,W i m ys σ H ->
  (J.stop i H/\Fin ys H)\/(J.go i H/\ys.length<sizeLine/\∃N:List V->St->Hp->Prop,(∀zs σ' H',N zs σ' H'->∃m',m'<m/\W (i+1) m' zs σ' H') /\
   ∀x H',J.yld i H x H'->g x σ H' fun σ2 H2=>tc σ2 H2 fun b H3=>if b=true then te σ2 H3 (fun y H4=>N (ys++[y]) σ2 H4) else N ys σ2 H3)
section
variable {prog : Program} {w : World} {A : Around} {R : Result -> Shared -> Prop} {s : Shared}
theorem rW{elt target iter:Expr}{ifs:List Expr}{scope:Scope}{pos:Pos}{it acc:Value}{env:Env}(I:Nat->Shared->Prop)
  (turn:∀n s,I n s->wpAny (model prog w) A (pyNext it) (fun r s₁=>match r with
   |none=>R (.ok .next) s₁
   |some v=>wpAny (model prog w) A (letOwnedTupleGo target it v) (fun _ s₁'=>wpAny (model prog w) A (assign target env v) (fun _ s₂=>
     wpAny (model prog w) A (forIn ifs true fun c r=>if r=true then do let ok ←isTrue c env (eval c env);pure (ForInStep.yield ok) else pure (ForInStep.yield r)) (fun ok s₃=>
      if ok=true then wpAny (model prog w) A (eval elt env) (fun x s₄=>
       wpAny (model prog w) A (call (.builtin "list.append") [acc,x]) (fun _ s₅=>∃m,m<n/\I m s₅) (fun _ _=>False) s₄) (fun _ _=>False) s₃
      else ∃m,m<n/\I m s₃) (fun _ _=>False) s₂) (fun _ _=>False) s₁') (fun _ _=>False) s₁) (fun _ _=>False) s)
  (n:Nat) (h:I n s):
  codeAny (model prog w) A (.compLoop (.ListComp elt [⟨target,iter,ifs,0⟩] scope pos) 0 it acc env) R s:=by
 refine codeAny_loop rfl I (fun n s hI=>?_) n h;show wpAny _ A ((compTurn (.ListComp elt [⟨target,iter,ifs,0⟩] scope pos) 0 it acc env).onRaise (fun x=>do noteFrame x env;theTreesLotGoes x)) _ _ s;refine wpAny_noted (wpAny_noRaise ?_);rw[compTurn_list];refine wpAny_bind (wpAny_standAt (wpAny_bind (wpAny_mono (turn n s hI) (fun r s₁ h₁=>?_) fun _ _ h'=>h')));cases r with
 |none=>exact wpAny_pure h₁
 |some v=>
  refine wpAny_bind (wpAny_mono h₁ (fun _ s₁' h₁'=>?_) fun _ _ h'=>h');refine wpAny_bind (wpAny_mono h₁' (fun _ s₂ h₂=>wpAny_bind (wpAny_mono h₂ (fun ok s₃ h₃=>?_) fun _ _ h'=>h')) fun _ _ h'=>h');cases ok with
  |false=>exact wpAny_pure ⟨rfl,h₃⟩
  |true=>
   exact wpAny_bind (wpAny_bind (wpAny_mono h₃ (fun x s₄ h₄=>wpAny_bind (wpAny_mono h₄ (fun _ s₅ h₅=>wpAny_pure (wpAny_pure ⟨rfl,h₅⟩)) fun _ _ h'=>h')) fun _ _ h'=>h'))
end
section
variable {X : Cx} {pins : List (Addr × Obj)} {σ : St} {H : Hp} {s : Shared}
theorem x5{elt tg iter:Expr}{ifs:List Expr}{scope osc:Scope}{N own N2:List Str}{pos pos':Pos}{wi:TI}{g:TG}{tc:TT}{te:TE}{use:Option (Value->Sem Unit)}{QQ:Value->Shared->Prop}{Fin:List V->Hp->Prop}
  (cs:CompScope osc scope N own N2) (ho:X.env.scope=osc) (hN:X.N=N) (hc:X.calm=true) (hi:PI X tg iter wi)
  (hg:∀C s H ex pn,PG (cxC X scope own N2 C s H ex pn) tg g) (ht:∀C s H ex pn,PTs (cxC X scope own N2 C s H ex pn) ifs tc) (he:∀C s H ex pn,PE (cxC X scope own N2 C s H ex pn) elt te)
  (I:Inv X pins σ H s) (h:wi σ H fun J H1=>zq J g tc te Fin (σ++List.replicate own.length none) H1)
  (fin:∀(D C:Addr) (ys:List V) (H':Hp) (s':Shared) (m:Str->Option Value),Fin ys H'->H' D=none->Inv X pins σ (upd H' D (.lst ys)) s'->s'.heap.Ns C m->FpOk X pins (upd H' D (.lst ys)) C ->
   compPost (model X.prog X.w) X.A X.xe use QQ (.ref D) C (.ok .next) s')
  (hs:∀x,foldedSetIterable iter X.env x=pure x):
  wpAny (model X.prog X.w) X.A (comprehension (.ListComp elt [⟨tg,iter,ifs,0⟩] scope pos) scope X.env pos' (newList []) false (eval iter X.env) use) QQ X.xe s:=by
 subst ho hN;have hfree:∀x∈scope.names,x.2=.free->∃c,X.env.cells.lookup x.1=some c:=fun x hx hf=>I.ok.has x.1 (cs.free x hx hf)
 refine wpAny_comprehension_free (use:=use) rfl hs (yF hfree) cs.kind cs.names (thn (hi pins s σ H _ I h) fun v s1 h1=>thn h1 fun itv s2 h2=>?_);obtain⟨it,fp,tn,J,H2,e,I2,T,st2,f2,W,⟨m0,w0⟩,turn⟩:=h2;subst e;refine wpAny_newObj_type (wpAny_newFunctionEnv cs.nocell (by intro y hy;simp at hy) (fun h₁ hns₁ hsb₁=>?_) cs.kind);dsimp only at hns₁ hsb₁ ⊢;generalize hG:s2.heap.push { cls:=.type "list",dict:=none,data:=.seq ([]:List Value).toArray }=G at hns₁ hsb₁ ⊢;have hC:G.objs.size=s2.heap.objs.size+1:=by rw[←hG,Heap.size_push]
 have hDC:s2.heap.objs.size≠G.objs.size:=by rw[hC];exact Nat.ne_of_lt (Nat.lt_succ_self _)
 have hCle:s2.heap.objs.size<=G.objs.size:=by rw[hC];exact Nat.le_succ _
 have below:∀b,b<s2.heap.objs.size->b≠G.objs.size/\b≠s2.heap.objs.size:=fun b hb=>⟨by rw[hC];exact Nat.ne_of_lt (Nat.lt_succ_of_lt hb),Nat.ne_of_lt hb⟩
 have old:∀b o,s2.heap.get? b=some o->h₁.get? b=some o:=fun b o e=>hsb₁.extBut b o (below b (Heap.lt_size e)).1 (Heap.get?_push_of_some _ (hG▸Heap.get?_push_of_some _ e))
 have hacc:h₁.get? s2.heap.objs.size=some (LCg.lst []):=hsb₁.extBut _ _ hDC (Heap.get?_push_of_some _ (hG▸Heap.get?_push_size _ rfl));have fpLt:∀b∈fp,b<s2.heap.objs.size:=fun b hb=>let⟨o,e,_⟩:=T.obj 0 _ st2 b hb;Heap.lt_size e
 have hD2:H2 s2.heap.objs.size=none:=I2.hok.fresh (Nat.le_refl _);have hC2:H2 G.objs.size=none:=I2.hok.fresh hCle;have cellLt:∀x c,X.env.cells.lookup x=some c->c<s2.heap.objs.size:=fun x c e=>let⟨v,z⟩:=I2.cell x c e;z.lt
 have pinLt:∀p∈X.pn++pins,p.1<s2.heap.objs.size:=fun p hp=>Heap.lt_size (I2.pin p hp).1
 -- the block's context
 generalize hX:cxC X scope own N2 G.objs.size s2 H2 fp (X.pn++pins)=X';have hok':X'.Ok:=by
  subst hX;refine⟨I2.ok.mod,cs.kind,I2.ok.glob,I2.ok.blt,hCle,fun x y c e1 e2=>I2.ok.inj x y c (kA hfree e1) (kA hfree e2),fun x hx=>?_,fun x c hf=>?_,I2.ok.hd,I2.ok.frames,.inl rfl,fun b hb=>?_,I2.bs,
   Nat.le_trans I2.ok.bsz I2.sz,fun b o e hb=>?_,fun b hb hz=>?_,I2.stack,I2.stkFree⟩
  ·have hx':(relabel scope X.env).names.lookup x=some .cell\/(relabel scope X.env).names.lookup x=some .free:=hx
   unfold relabel at hx';dsimp only at hx';rw[gp] at hx';have hm:∃k,scope.names.lookup x=some k:=by
    cases q:scope.names.lookup x with
    |none=>rw[q] at hx';rcases hx' with z | z<;>cases z
    |some k=>exact⟨k,rfl⟩
   obtain⟨k,hk⟩:=hm;have hmem:=PySem.mem_of_lookup hk;have hkf:k=.free:=by
    rw[hk] at hx';cases k with
    |free=>rfl
    |cell=>exact absurd rfl (cs.nocell _ hmem)
    |_=>rcases hx' with z | z<;>cases z
   subst hkf;obtain⟨c,hc⟩:=hfree _ hmem rfl;exact⟨c,FI hfree hmem hc⟩
  ·cases hf
  ·obtain⟨_,f1,ff,fx,fc,fpn⟩:=f2 b hb
   exact⟨(below b (fpLt b hb)).1,fun x c e=>fc x c (kA hfree e)⟩
  ·obtain⟨_,_,_,fx,_,_⟩:=f2 b hb
   rcases fx with z | z
   ·exact I2.ok.noex b o e z
   ·exact absurd (Nat.lt_of_lt_of_le (Heap.lt_size e) (Nat.le_trans I2.ok.bsz z)) (Nat.lt_irrefl _)
  ·obtain⟨_,f1,ff,_⟩:=f2 b hb
   rcases List.mem_cons.mp (I2.stkSub b hz) with z | z
   ·exact f1 z
   ·exact ff z
 have I0:Inv X' [(s2.heap.objs.size,LCg.lst [])] (σ++List.replicate own.length none) H2 { s2 with heap:=h₁,toks:=s2.toks+([]:List (Str×Value)).length }:=by
  subst hX;refine⟨hok',rfl,I2.bare,Un.kept old,⟨_,hns₁,fun i x v e1 e2 e3=>?_⟩,fun x c e=>?_,hC2,fun x c e=>I2.freeC x c (kA hfree e),fun p hp=>?_,I2.hok.kept old,?_⟩
  ·have e1:(N2++own)[i]?=some x:=e1
   have hil:i<σ.length:=by
    by_cases hil:i<σ.length
    ·exact hil
    ·rw[List.getElem?_append_right (by omega),List.getElem?_replicate] at e2
     split at e2<;>cases e2
   rw[List.getElem?_append_left hil] at e2;have hlen:N2.length=σ.length:=cs.len.trans I2.len.symm;rw[List.getElem?_append_left (by omega)] at e1;have hiN:i<X.N.length:=by rw[←I2.len];exact hil
   have hz:(x,X.N[i])∈N2.zip X.N:=by
    refine List.mem_of_getElem? (i:=i) ?_;rw[List.getElem?_zip_eq_some];exact⟨e1,List.getElem?_eq_getElem hiN⟩
   obtain⟨v1,v2⟩:=cs.vis _ hz;have e3':Vis (relabel scope X.env) x:=e3;have hmf:scope.names.lookup x=some .free:=by
    unfold Vis relabel at e3';dsimp only at e3';rw[gp] at e3';cases q:scope.names.lookup x with
    |none=>rw[q] at e3';rcases e3' with z | z | z<;>cases z
    |some k=>
     rw[q] at e3';cases k with
     |free=>rfl
     |cell=>exact absurd rfl (cs.nocell _ (PySem.mem_of_lookup q))
     |«local»=>exact absurd q v2
     |_=>rcases e3' with z | z | z<;>cases z
   have hmem:=PySem.mem_of_lookup hmf;have ex:x=X.N[i]:=v1 hmf;have hNi:X.N[i]?=some x:=by rw[ex];exact List.getElem?_eq_getElem hiN
   have hcf:=cs.free _ hmem rfl;obtain⟨m,hn,hl⟩:=I2.loc;obtain⟨u,ru,lk⟩:=hl i x v hNi e2 (.inr hcf);refine⟨u,ru,?_⟩;rcases lk with⟨k,_⟩ | ⟨k,c,ec,z⟩
   ·have k':X.env.scope.names.lookup x=some .local:=k
    rcases hcf with q | q<;>(have q':X.env.scope.names.lookup x=_:=q;rw[k'] at q';cases q')
   ·refine .inr ⟨?_,c,FI hfree hmem ec,?_⟩
    ·show(relabel scope X.env).names.lookup x=some .cell\/(relabel scope X.env).names.lookup x=some .free
     unfold relabel;dsimp only;rw[gp,hmf];show some (if _ then NameKind.cell else NameKind.free)=_\/some (if _ then NameKind.cell else NameKind.free)=_;split
     ·exact .inl rfl
     ·exact .inr rfl
    ·obtain⟨o,eo,d⟩:=z
     exact⟨o,old _ _ eo,d⟩
  ·obtain⟨v,o,eo,d⟩:=I2.cell x c (kA hfree e)
   exact⟨v,o,old _ _ eo,d⟩
  ·have hp:p∈(X.pn++pins)++[(s2.heap.objs.size,LCg.lst [])]:=hp
   rcases List.mem_append.mp hp with hp | hp
   ·obtain⟨e,n,nl,nf,d⟩:=I2.pin p hp
    refine⟨old _ _ e,n,(below _ (Heap.lt_size e)).1,fun hz=>?_,d⟩;rcases List.mem_cons.mp (I2.stkSub p.1 hz) with z | z
    ·exact nl z
    ·exact nf z
   ·have e:p=(s2.heap.objs.size,LCg.lst []):=by simpa using hp
    subst e;refine⟨hacc,hD2,hDC,fun hz=>?_,fun v z=>by cases z⟩;rcases List.mem_cons.mp (I2.stkSub _ hz) with z | z
    ·exact absurd I2.lt (by rw[←z];exact Nat.lt_irrefl _)
    ·exact I2.nofs (Nat.le_refl _) z
  ·show(σ++List.replicate own.length none).length=(N2++own).length
   rw[List.length_append,List.length_append,List.length_replicate,cs.len,I2.len]
 have stat:∀{H':Hp}{us:List Value},(∀b∈fp,H' b=none)->∀b∈fp,FpOk X' [(s2.heap.objs.size,LCg.lst us)] H' b:=fun {H' us} hn b hb=>by
  subst hX;obtain⟨_,f1,ff,fx,fc,fpn⟩:=f2 b hb;refine⟨hn b hb,(below b (fpLt b hb)).1,fun hz=>?_,.inl hb,fun x c e=>fc x c (kA hfree e),fun p hp z=>?_⟩
  ·rcases List.mem_cons.mp (I2.stkSub b hz) with z | z
   ·exact f1 z
   ·exact ff z
  ·have hp:p∈(X.pn++pins)++[(s2.heap.objs.size,LCg.lst us)]:=hp
   rcases List.mem_append.mp hp with hp | hp
   ·exact fpn p hp z
   ·have e:p=(s2.heap.objs.size,LCg.lst us):=by simpa using hp
    subst e;exact(below b (fpLt b hb)).2 z.symm
 have eP:X'.prog=X.prog:=by subst hX;rfl
 have eW:X'.w=X.w:=by subst hX;rfl
 have eK:X'.K=X.K:=by subst hX;rfl
 have eA:X'.A=X.A:=by subst hX;rfl
 have eE:X'.env=compEnvC scope (clOf scope X.env) G.objs.size X.env:=by subst hX;rfl
 have eX:X'.xe=fun _ _=>False:=by subst hX;rfl
 have eC:X'.calm=true:=by subst hX;exact hc
 have eS:X'.s₀=s2:=by subst hX;rfl
 have eH:X'.H₀=H2:=by subst hX;rfl
 have eF:X'.fs=frs X.stack:=by subst hX;rfl
 have eEx:X'.ex=fp:=by subst hX;rfl
 have eN:X'.pn=X.pn++pins:=by subst hX;rfl
 have hg':=hg G.objs.size s2 H2 fp (X.pn++pins);have ht':=ht G.objs.size s2 H2 fp (X.pn++pins);have he':=he G.objs.size s2 H2 fp (X.pn++pins);rw[hX] at hg' ht' he';have loop:∀s₃:Shared,s₃={ s2 with heap:=h₁,toks:=s2.toks+([]:List (Str×Value)).length } ->
   codeAny (model X.prog X.w) X.A (.compLoop (.ListComp elt [⟨tg,iter,ifs,0⟩] scope pos) 0 (.ref it) (.ref s2.heap.objs.size) (compEnvC scope (clOf scope X.env) G.objs.size X.env))
    (compPost (model X.prog X.w) X.A X.xe use QQ (.ref s2.heap.objs.size) G.objs.size) s₃:=by
  rintro s₃ rfl;refine rW (fun n s'=>∃i ys us σ' H',Inv X' [(s2.heap.objs.size,LCg.lst us)] σ' H' s'/\tn i s'.heap/\(∀b∈fp,H' b=none)/\Vals ys us/\ys.length<=sizeLine/\W i n ys σ' H') ?_ m0
   ⟨0,[],[],_,H2,I0,T.keep 0 _ _ st2 fun b _ o e=>old b o e,fun b hb=>(f2 b hb).1,.nil,Nat.zero_le _,w0⟩
  rintro n s3 ⟨i,ys,us,σ3,H3,I3,st3,fr3,hv,hz,w3⟩;rcases turn i n ys σ3 H3 w3 with⟨stop,qn⟩ | ⟨go,hlt,NN,hNN,step⟩
  ·have dn:=T.done X' eP eW eK eC i _ s3 σ3 H3 (fun _ _=>False) I3 (stat fr3) st3 stop
   rw[eA] at dn;refine thn dn fun r s4 zz1=>?_
   obtain⟨hr,I4⟩:=zz1;subst hr;have pD:=I4.pin (s2.heap.objs.size,LCg.lst us) (List.mem_append_right _ List.mem_cons_self);have hD3:H3 s2.heap.objs.size=none:=pD.2.1;have hC3:H3 G.objs.size=none:=by have:=I4.free;rw[eE] at this;exact this
   have un:Un (frs X.stack) fp H2 H3 s2.heap s4.heap:=by have:=I4.base;rw[eF,eEx,eH,eS] at this;exact this
   have hk4:HOk X.prog X.w H3 s4.heap:=by have:=I4.hok;rw[eP,eW] at this;exact this
   have hok4:HOk X.prog X.w (upd H3 s2.heap.objs.size (.lst ys)) s4.heap:=fun b u e=>by
    by_cases hb:b=s2.heap.objs.size
    ·subst hb
     rw[aC] at e;cases e;exact⟨hz,us,us.length,hv,pD.1⟩
    ·rw[aI hb] at e
     refine(hk4 b u e).stay (fun c v _ q=>q) (fun c q=>?_) fun c xs q=>?_
     ·rw[aI (ba q hD3)];exact q
     ·rw[aI (ba q hD3)];exact q
   have os4:s4.os=s2.os:=by have:=I4.os;rw[eS] at this;exact this
   have I5:Inv X pins σ (upd H3 s2.heap.objs.size (.lst ys)) s4:=I2.call' os4 (un.track (Nat.le_refl _) hD2) hok4 I4.bare fun b hb=>⟨(f2 b hb).2.2.2.1,(f2 b hb).2.1,(f2 b hb).2.2.2.2.1,(f2 b hb).2.2.2.2.2⟩
   obtain⟨m,hn,_⟩:=I4.loc;rw[eE] at hn;exact fin _ _ ys H3 s4 m qn hD3 I5 hn (I2.fpOk hCle (by rw[aI (Ne.symm hDC)];exact hC3))
  ·have itm:=T.item X' eP eW eK eC i _ s3 σ3 H3 (fun _ _=>False) I3 (stat fr3) st3 go
   rw[eA] at itm;refine thn itm fun r s4 zz2=>?_
   obtain⟨u,hr,h4⟩:=zz2;subst hr;refine thn h4 fun _ s5 zz3=>?_
   obtain⟨x,H5,I5,r5,y5,st5,fr5⟩:=zz3;have I5':=I5.pinned (stat fr5) (T.obj _ _ st5);have a5:=hg' _ s5 σ3 H5 x u _ I5' r5 (step x H5 y5);rw[eP,eW,eA,eE,eX] at a5;refine thn a5 fun _ s6 zz4=>?_
   obtain⟨σ6,H6,I6,q6⟩:=zz4;have a6:=ht' _ s6 σ6 H6 _ I6 q6;rw[eP,eW,eA,eE,eX] at a6;refine thn a6 fun ok s7 zz5=>?_
   obtain⟨H7,I7,q7⟩:=zz5;have keepT:∀{σ':St}{H':Hp}{s':Shared}{us':List Value},Inv X' ([(s2.heap.objs.size,LCg.lst us')]++kx fp s5.heap) σ' H' s'->tn (i+1) s'.heap/\∀b∈fp,H' b=none:=fun {σ' H' s' us'} J'=>by
    refine⟨T.keep _ _ _ st5 fun b hb o e=>(J'.pin (b,o) (List.mem_append_right _ (List.mem_append_right _ (lC hb e)))).1,fun b hb=>?_⟩;obtain⟨o,e,d⟩:=T.obj _ _ st5 b hb;exact(J'.pin (b,o) (List.mem_append_right _ (List.mem_append_right _ (lC hb e)))).2.1
   cases ok with
   |false=>
    obtain⟨m',hm,w7⟩:=hNN _ _ _ (by simpa using q7);exact⟨m',hm,i+1,ys,us,σ6,H7,I7.unpinned,(keepT I7).1,(keepT I7).2,hv,hz,w7⟩
   |true=>
    have q7:te σ6 H7 (fun y H4=>NN (ys++[y]) σ6 H4):=by simpa using q7
    have a7:=he' _ s7 σ6 H7 _ I7 q7;rw[eP,eW,eA,eE,eX] at a7;refine thn a7 fun uy s8 zz6=>?_
    obtain⟨y,H8,I8,r8,q8⟩:=zz6;have pD:=I8.pin (s2.heap.objs.size,LCg.lst us) (List.mem_append_right _ (List.mem_append_left _ List.mem_cons_self));have hul:us.length=ys.length:=hv.length.symm;refine append_at (hsz:=by rw[List.size_toArray];omega) pD.1 fun h9 sb9 hD9=>?_
    obtain⟨m',hm,w8⟩:=hNN _ _ _ q8;have I8a:Inv X' (kx fp s5.heap) σ6 H8 s8:=I8.pins_of fun p hp=>I8.pin p (List.mem_append_right _ (List.mem_append_right _ hp))
    have I9:Inv X' (kx fp s5.heap) σ6 H8 { s8 with heap:=h9 }:=I8a.turned (t':=s8.toks) (it:=s2.heap.objs.size) (fun b o hb e=>(sb9.2 b hb).trans e) pD.2.1 (by rw[eE];exact hDC) (.inr (by rw[eS];exact Nat.le_refl _))
     (fun x c e=>by
      rw[eE] at e;exact Nat.ne_of_lt (cellLt x c (kA hfree e)))
     (fun p hp=>by
      rw[eN] at hp;rcases List.mem_append.mp hp with z | z
      ·exact Nat.ne_of_lt (pinLt p z)
      ·exact Nat.ne_of_lt (fpLt _ (xR z).1))
    have I9':Inv X' ([(s2.heap.objs.size,LCg.lst (us++[uy]))]++kx fp s5.heap) σ6 H8 { s8 with heap:=h9 }:=I9.pins_of fun p hp=>by
     rcases List.mem_append.mp hp with z | z
     ·have e:p=(s2.heap.objs.size,LCg.lst (us++[uy])):=by simpa using z
      subst e;exact⟨hD9.trans (congrArg some (LCg.lst_snoc us uy)),pD.2.1,pD.2.2.1,pD.2.2.2.1,fun v z=>by cases z⟩
     ·exact I9.pin p (List.mem_append_right _ z)
    exact⟨m',hm,i+1,ys++[y],us++[uy],σ6,H8,I9'.unpinned,(keepT I9').1,(keepT I9').2,hv.append (.cons r8 .nil),by rw[List.length_append,List.length_singleton];omega,w8⟩
 exact codeAny_compStart_list (loop _ rfl) (T.self X.A 0 _ _ _ (T.keep 0 _ _ st2 fun b _ o e=>old b o e) (loop _ rfl))
def MG(k:Nat)(wi:TI)(g:TG)(tc:TT)(te:TE):TE:=fun σ H Q=>wi σ H fun J H1=>zq J g tc te (fun ys H'=>∀p,H' p=none->Q (.ref p) (upd H' p (.lst ys))) (σ++List.replicate k none) H1
theorem Jw{elt tg iter:Expr}{ifs:List Expr}{scope osc:Scope}{N own N2:List Str}{pos:Pos}{wi:TI}{g:TG}{tc:TT}{te:TE}(cs:CompScope osc scope N own N2)(hc:X.calm=true)(hi:PI X tg iter wi)
  (hg:∀C s H ex pn,PG (cxC X scope own N2 C s H ex pn) tg g) (ht:∀C s H ex pn,PTs (cxC X scope own N2 C s H ex pn) ifs tc) (he:∀C s H ex pn,PE (cxC X scope own N2 C s H ex pn) elt te)
  (ho:X.env.scope=osc:=by rfl) (hN:X.N=N:=by rfl) (hs:∀x,foldedSetIterable iter X.env x=pure x:=by intro _;rfl):
  PE X (.ListComp elt [⟨tg,iter,ifs,0⟩] scope pos) (MG own.length wi g tc te):=by
 intro pins s σ H Q I h;rw[eval_ListComp];refine x5 (use:=none) cs ho hN hc hi hg ht he I h (fun D C ys H' s' m q hD I' hn fC=>⟨m,hn,fun h' sb=>⟨.ref D,_,?_,rfl,q D hD⟩⟩) hs;exact I'.turned (t':=s'.toks) (fun b o hb e=>(sb.2 b hb).trans e) fC.1 fC.2.1 fC.2.2.2.1 fC.2.2.2.2.1 fC.2.2.2.2.2
def MI(i k:Nat)(wi:TI)(g:TG)(tc:TT)(te:TE):TS:=fun D σ H=>wi σ H fun J H1=>zq J g tc te (fun ys H'=>∀p,H' p=none->D.nx (σ.set i (some (.ref p))) (upd H' p (.lst ys))) (σ++List.replicate k none) H1
theorem Jx{elt tg iter:Expr}{ifs:List Expr}{scope osc:Scope}{N own N2:List Str}{pos py spos:Pos}{wi:TI}{g:TG}{tc:TT}{te:TE}{i:Nat}{y:Str}(cs:CompScope osc scope N own N2)(hc:X.calm=true)
  (hnd:X.N.Nodup) (hy:X.N[i]?=some y) (hl:X.env.scope.names.lookup y=some .local)
  (hi:PI X tg iter wi)
  (hg:∀C s H ex pn,PG (cxC X scope own N2 C s H ex pn) tg g) (ht:∀C s H ex pn,PTs (cxC X scope own N2 C s H ex pn) ifs tc) (he:∀C s H ex pn,PE (cxC X scope own N2 C s H ex pn) elt te)
  (hsw:swapsWith (.ListComp elt [⟨tg,iter,ifs,0⟩] scope pos) (some (.Name y py)) spos.line X.env=pure true:=by rfl)
  (ho:X.env.scope=osc:=by rfl) (hN:X.N=N:=by rfl) (hs:∀x,foldedSetIterable iter X.env x=pure x:=by intro _;rfl):
  PS X (.Assign [.Name y py] (.ListComp elt [⟨tg,iter,ifs,0⟩] scope pos) spos) (MI i own.length wi g tc te):=by
 intro pins s σ H D I h;rw[exec_Assign_Name_used _ _ _ _ hsw];refine wpAny_bind (wpAny_standAt (wpAny_bind ?_));show wpAny _ X.A (do let _ ←comprehension (.ListComp elt [⟨tg,iter,ifs,0⟩] scope pos) scope X.env _ (newList []) false (eval iter X.env) (some (assign (.Name y py) X.env))) _ _ s;refine wpAny_bind (thn (x5 (use:=some (assign (.Name y py) X.env)) (QQ:=fun _ s'=>SP X pins D .next s') cs ho hN hc hi hg ht he I h (fun D' C ys H' s' m q hD I' hn fC=>?_) hs) (fun _ s' hq=>wpAny_pure (wpAny_pure hq)));show wpAny _ X.A (assign (.Name y py) X.env (.ref D')) _ _ _;refine wpAny_assign_Name (xQ I' hnd hy (.inl hl) (show RelV (.ref D') (.ref D') from rfl) (fun s'' I'' zz7=>?_) (.inr hl));obtain⟨a,sb,ha⟩:=zz7;have hCa:C≠a:=by
  rcases ha with z | z
  ·rw[z];exact fC.2.1
  ·exact(fC.2.2.2.2.1 y a z).symm
 refine⟨m,hn.sameBut sb hCa,fun h' sb'=>⟨_,_,?_,q D' hD⟩⟩;exact I''.turned (t':=s''.toks) (fun b o hb e=>(sb'.2 b hb).trans e) fC.1 fC.2.1 fC.2.2.2.1 fC.2.2.2.2.1 fC.2.2.2.2.2
end
end L2
namespace L2
open PySem PySem.Spec PyProof.Rows
def Its(x:Str):It:=⟨fun i _=>i<x.cps.size,fun i H v H'=>H'=H/\∃c,x.cps[i]?=some c/\v=.str ⟨#[c]⟩,fun i _=>i=x.cps.size⟩
theorem FJ{P:Program}{w:World}{K:PySem.W.Frag}{tg:Expr}(it:Addr)(x:Str)(t:Tok):Turn P w K tg (Its x) [it] it (fun i h=>h.IsStrIter it "str_ascii_iterator" x t i) where
 mem:=by simp
 obj:=fun i h st b hb=>by
  have e:b=it:=by simpa using hb
  subst e;obtain⟨o,e,c,d⟩:=st;exact⟨o,e,fun v z=>by rw[d] at z;cases z⟩
 keep:=fun i h h' st k=>let⟨o,e,r⟩:=st;⟨o,k it (by simp) o e,r⟩
 item:=by
  intro X hP hw hK hc i pins s σ H E I hf st hg;subst hP hw hK;obtain⟨f0,f1,f2,f3,f4,f5⟩:=hf it (by simp);have W:=Walks.strAscii (prog:=X.prog) (w:=X.w) (I.ok.hd hc) it x t;refine W.item i s _ _ hg st fun v h' tk hv st' kk=>?_
  obtain⟨c,u,hc',rfl⟩:=hv;have I1:Inv X pins σ H { s with heap:=h',toks:=tk }:=I.turned (fun b o hb e=>kk b o (by simpa using hb) e) f0 f1 f3 f4 f5;obtain⟨o,e,c1,d⟩:=id st';exact⟨_,rfl,rb (s:={ s with heap:=h',toks:=tk }) e c1 d (by decide) ⟨.str ⟨#[c]⟩,H,I1,⟨u,rfl⟩,⟨rfl,c,hc',rfl⟩,st',fun b hb=>(hf b hb).1⟩⟩
 done:=by
  intro X hP hw hK hc i pins s σ H E I hf st hg;subst hP hw hK;obtain⟨f0,f1,f2,f3,f4,f5⟩:=hf it (by simp);have W:=Walks.strAscii (prog:=X.prog) (w:=X.w) (I.ok.hd hc) it x t;have hg':i=x.cps.size:=hg;subst hg';exact W.done s _ _ st fun h' tk kk=>⟨rfl,I.turned (fun b o hb e=>kk b o (by simpa using hb) e) f0 f1 f3 f4 f5⟩
 self:=fun _ _ _ _ _ st h=>wpAny_pyIter_striter_ascii st h
theorem FK{P:Program}{w:World}{K:PySem.W.Frag}{tg:Expr}(it:Addr)(x:Str)(t:Tok):Turn P w K tg (Its x) [it] it (fun i h=>h.IsStrIter it "str_iterator" x t i) where
 mem:=by simp
 obj:=fun i h st b hb=>by
  have e:b=it:=by simpa using hb
  subst e;obtain⟨o,e,c,d⟩:=st;exact⟨o,e,fun v z=>by rw[d] at z;cases z⟩
 keep:=fun i h h' st k=>let⟨o,e,r⟩:=st;⟨o,k it (by simp) o e,r⟩
 item:=by
  intro X hP hw hK hc i pins s σ H E I hf st hg;subst hP hw hK;obtain⟨f0,f1,f2,f3,f4,f5⟩:=hf it (by simp);have W:=Walks.strWide (prog:=X.prog) (w:=X.w) (I.ok.hd hc) it x t;refine W.item i s _ _ hg st fun v h' tk hv st' kk=>?_
  obtain⟨c,u,hc',rfl⟩:=hv;have I1:Inv X pins σ H { s with heap:=h',toks:=tk }:=I.turned (fun b o hb e=>kk b o (by simpa using hb) e) f0 f1 f3 f4 f5;obtain⟨o,e,c1,d⟩:=id st';exact⟨_,rfl,rb (s:={ s with heap:=h',toks:=tk }) e c1 d (by decide) ⟨.str ⟨#[c]⟩,H,I1,⟨u,rfl⟩,⟨rfl,c,hc',rfl⟩,st',fun b hb=>(hf b hb).1⟩⟩
 done:=by
  intro X hP hw hK hc i pins s σ H E I hf st hg;subst hP hw hK;obtain⟨f0,f1,f2,f3,f4,f5⟩:=hf it (by simp);have W:=Walks.strWide (prog:=X.prog) (w:=X.w) (I.ok.hd hc) it x t;have hg':i=x.cps.size:=hg;subst hg';exact W.done s _ _ st fun h' tk kk=>⟨rfl,I.turned (fun b o hb e=>kk b o (by simpa using hb) e) f0 f1 f3 f4 f5⟩
 self:=fun _ _ _ _ _ st h=>wpAny_pyIter_striter_wide st h
section
variable {X : Cx}
theorem FM{bs:List Bool}{its:List Value}(r:Vals (bs.map V.bl) its){i:Nat}{v:Value}(h:its[i]?=some v):v=.bool ((bs[i]?).getD false):=by
 have hl:=r.length;rw[List.length_map] at hl;have hi:i<bs.length:=by have:=(List.getElem?_eq_some_iff.mp h).1;omega
 obtain⟨u,hu,ru⟩:=r.get (i:=i) (x:=V.bl bs[i]) (by rw[List.getElem?_map,List.getElem?_eq_getElem hi];rfl);rw[h] at hu;cases hu;have ru:v=Value.bool bs[i]:=ru;rw[ru,List.getElem?_eq_getElem hi];rfl
theorem range_all{bs:List Bool}{n:Nat}(hn:n=bs.length):((List.range n).all fun i=>(bs[i]?).getD false)=bs.all id:=by
 subst hn;rw[Bool.eq_iff_iff,List.all_eq_true,List.all_eq_true];constructor
 ·intro h b hb
  obtain⟨i,hi,e⟩:=List.mem_iff_getElem.mp hb
  have:=h i (List.mem_range.mpr hi)
  rw[List.getElem?_eq_getElem hi] at this;rw[←e];exact this
 ·intro h i hi
  have hi:=List.mem_range.mp hi;rw[List.getElem?_eq_getElem hi];exact h _ (List.getElem_mem hi)
theorem Hh(hc:X.calm=true):gm X (.builtin "all") (fun xs H Q=>∃p bs,xs=[.ref p]/\SqL X.K H p (List.map V.bl bs)/\Q (.bl (bs.all id)) H):=by
 intro pins s σ H xs us Q I r h;obtain⟨p,bs,rfl,hq,q⟩:=h;obtain⟨u,rfl,ru⟩:=vals1 r;cases ru;obtain⟨its,rv,pl,hz⟩:=I.list hq;have hlt:p<s.heap.objs.size:=by obtain⟨o,_,e,_⟩:=pl;exact Heap.lt_size e
 refine call_all_walk (wpAny_pyIter_list pl.isList ⟨s.heap.objs.size,_,_,_,_,_,fun i=>(bs[i]?).getD false,rfl,Walks.list (A:=X.A.in1) (I.ok.hd hc) s.heap.objs.size p (Nat.ne_of_lt hlt) its.toArray,
  ⟨⟨_,Heap.get?_push_size _ rfl,rfl,rfl⟩,pl.isList.push _⟩,fun i v s' Q' E' hv hq'=>?_,fun h' tk kk=>?_⟩)
 ·have hv:its[i]?=some v:=by simpa using hv
  rw[FM rv hv];exact wpAny_truthy_bool hq'
 ·have e:its.toArray.size=bs.length:=by have:=rv.length;rw[List.length_map] at this;simp;omega
  rw[range_all e];refine⟨.bl _,H,I.kept fun b o e=>kk b o ?_ (Heap.get?_push_of_some _ e),rfl,q⟩;simp only[List.mem_singleton];exact Nat.ne_of_lt (Heap.lt_size e)
theorem mulOk_of{x:Str}{n:Int}(h0:0<=n)(h:x.length*n.toNat<=1048576)(hn:n<=1048576):MulOk x n:=by
 refine⟨?_,fun h1 h2=>?_,fun h1 h2=>?_⟩
 ·rw[Bool.or_eq_false_iff]
  exact⟨decide_eq_false (by omega),decide_eq_false (by omega)⟩
 ·intro hgt
  have hn1:1<=n:=by omega
  have h3:(2 ^ 63-1:Int) / n*n<=2 ^ 63-1:=Int.ediv_mul_le _ (by omega);have h4:(2 ^ 63-1:Int)<((2 ^ 63-1) / n+1)*n:=Int.lt_ediv_add_one_mul_self _ (by omega);have h5:((2 ^ 63-1:Int) / n+1)*n<=(x.length:Int)*n:=Int.mul_le_mul_of_nonneg_right (by omega) (by omega);have h6:((x.length*n.toNat:Nat):Int)=(x.length:Int)*n:=by rw[Int.natCast_mul,Int.toNat_of_nonneg h0]
  have h7:((x.length*n.toNat:Nat):Int)<=1048576:=by omega
  omega
 ·show decide (x.length*n.toNat>sizeLine)=false
  rw[sizeLine_eq];exact decide_eq_false (by omega)
theorem Ej:OpR X (binaryOp .Mult) (fun x y H Q=>∃z n,x=.str z/\y=.int n/\0<=n/\n<=1048576/\z.length*n.toNat<=1048576/\Q (.str (Txt.mul z n)) H):=by
 intro pins s σ H x y v u Q I rx ry h;obtain⟨z,n,rfl,rfl,h0,hn,hz,q⟩:=h;obtain⟨t,rfl⟩:=rx;obtain⟨t',rfl⟩:=ry;exact SB.mul (mulOk_of h0 hz hn) fun t2 k=>⟨.str _,H,I.tok _,⟨t2,rfl⟩,q⟩
end
end L2
namespace L2
open PySem PySem.Spec PyProof.Rows
structure IsDef (K:PySem.W.Frag) (mg:Str->Option Value) (x:Str) (st:Stmt) (ps:List Str) (f:Addr) (fd:FuncData):Prop where
 fn:Fun K x x st f fd
 mgf:mg x=some (.ref f)
 b:Binds K fd ps []
theorem Hi{K:PySem.W.Frag}{h:Heap}{mg:Str->Option Value}{x:Str}{st:Stmt}{ps:List Str}{f:Addr}{oc:Value}{od an:Option Addr}{osl:Array (Option Value)}{kV doc pm cdv ct:Value}(X:K.In h)(G:h.Ns mainGlobals mg)
  (a:PySem.W.nsIn K mainGlobals x=some (some (.ref f))) (l:K.lookup f=some ⟨oc,od,.func (PySem.W.fnOf x x (bM st) (ae st) (aa st) .none kV doc pm an cdv ct),osl⟩)
  (c:PySem.W.codeIn K cdv x=true) (k:PySem.W.keepIn K (.ref f)=true)
  (hb:∀(kV doc pm:Value) (an:Option Addr) (cdv ct:Value) (us:List Value),us.length=ps.length->bindArgs (PySem.W.fnOf x x (bM st) (ae st) (aa st) .none kV doc pm an cdv ct) ⟨us,[]⟩=pure (ps.zip us)):
  IsDef K mg x st ps f (PySem.W.fnOf x x (bM st) (ae st) (aa st) .none kV doc pm an cdv ct):=by
 have F:=zK (st:=st) l c k;exact⟨F,PySem.W.mg_of X G a,F.binds hb⟩
section
variable {X : Cx} {k : Nat} {f : Addr} {fd : FuncData} {ps : List Str} {sp : Sp} {x : Str} {st : Stmt} {p pos : Pos} {e : Expr} {es : List Expr} {t : TA}
theorem Ls(D:IsDef X.K X.mg x st ps f fd)(F:FnOk X.prog X.w X.K X.mg X.base CX0 k f fd ps sp)(hr:Room k X.A)(ha:PA X (e::es) t)(hg:Gl X x:=by rfl)(hdb:(x==("__debug__" : Str))=false:=by decide)
  (he:starEach (e::es) X.env=(false,eval e X.env)::starEach es X.env:=by rfl) (hpl:(backTo pos (starEach es X.env)).any (·.1)=false:=by rfl):PE X (.Call (.Name x p) (e::es) [] pos) (IB sp [] E0 t):=
 Ji F hr hg D.mgf D.fn.kp D.b .nil zo ha hdb he hpl
end
theorem FN(K:PySem.W.Frag){a b:String}{r:Bool}(h:(if(Value.type a==Value.type b)=true then some true else if PySem.W.kitMeta b=true then(fastBuiltinMro a).map (·.contains (.type b)) else none)=some r):
  PySem.W.kitOne K (.type a) (.type b)=some r:=h
def aw:Expr->Bool
 |.Starred _ _=>false
 |_=>true
theorem bh{e:Expr}{es:List Expr}{env:Env}(h:aw e=true):starEach (e::es) env=(false,eval e env)::starEach es env:=by
 cases e<;>first | rfl | (exact absurd (show false=true from h) Bool.false_ne_true)
end L2
namespace DD
open PySem PySem.Spec PyProof.Rows L2
inductive D where
 |non | bl (b:Bool) | int (i:Int) | str (x:Str) | tup (ds:List D) | ref (a:Addr) | ty (n:String)
section
variable {α β : Type} {F G : α -> β -> Prop}
theorem kB:∀{l:List α}{m:List β},Paired F l m->l.length=m.length
 |_,_,.nil=>rfl
 |_,_,.cons _ t=>by simp[kB t]
theorem d5:∀{l:List α}{m:List β}{i:Nat}{a:α},Paired F l m->l[i]?=some a->∃b,m[i]?=some b/\F a b
 |_,_,_,_,.nil,e=>by simp at e
 |_,_,0,_,.cons r _,e=>by simp at e;subst e;exact⟨_,rfl,r⟩
 |_,_,i+1,a,.cons _ t,e=>by
  obtain⟨b,h1,h2⟩:=d5 (i:=i) (a:=a) t (by simpa using e);exact⟨b,by simpa using h1,h2⟩
theorem bd:∀{l l':List α}{m m':List β},Paired F l m->Paired F l' m'->Paired F (l++l') (m++m')
 |_,_,_,_,.nil,s=>s
 |_,_,_,_,.cons r t,s=>.cons r (bd t s)
theorem rf:∀{l:List α}{m:List β}(n:Nat),Paired F l m->Paired F (l.take n) (m.take n)
 |_,_,0,_=>.nil
 |_,_,_+1,.nil=>.nil
 |_,_,n+1,.cons r t=>.cons r (rf n t)
theorem Dt:∀{l:List α}{m:List β}(n:Nat),Paired F l m->Paired F (l.drop n) (m.drop n)
 |_,_,0,r=>r
 |_,_,_+1,.nil=>.nil
 |_,_,n+1,.cons _ t=>Dt n t
theorem zL{a:α}{b:β}(r:F a b):∀{l:List α}{m:List β}(i:Nat),Paired F l m->Paired F (l.set i a) (m.set i b)
 |_,_,_,.nil=>.nil
 |_,_,0,.cons _ t=>.cons r t
 |_,_,i+1,.cons q t=>.cons q (zL r i t)
theorem kC(f:∀a b,F a b->G a b):∀{l:List α}{m:List β},Paired F l m->Paired G l m
 |_,_,.nil=>.nil
 |_,_,.cons r t=>.cons (f _ _ r) (kC f t)
theorem FO{l:List α}{m:List β}(h:Paired F l m):∀n,Paired F (List.replicate n l).flatten (List.replicate n m).flatten
 |0=>.nil
 |n+1=>by rw[List.replicate_succ,List.replicate_succ,List.flatten_cons,List.flatten_cons];exact bd h (FO h n)
theorem lY{a:α}{b:β}(r:F a b):∀n,Paired F (List.replicate n a) (List.replicate n b)
 |0=>.nil
 |n+1=>.cons r (lY r n)
end
section
variable (K : PySem.W.Frag) (H : Hp)
mutual
noncomputable def RV:D->V->Prop
 |.non,v=>v=.non
 |.bl b,v=>v=.bl b
 |.int i,v=>v=.int i
 |.str x,v=>v=.str x
 |.ref a,v=>v=.ref a
 |.ty n,v=>v=.ty n
 |.tup ds,v=>∃a xs,v=.ref a/\SqT K H a xs/\RVs ds xs
noncomputable def RVs:List D->List V->Prop
 |[],xs=>xs=[]
 |d::ds,xs=>∃v vs,xs=v::vs/\RV d v/\RVs ds vs
end
end
section
variable {K : PySem.W.Frag} {H H' H'' : Hp}
theorem RVs.p:∀{ds:List D}{xs:List V},RVs K H ds xs->Paired (RV K H) ds xs
 |[],_,h=>by rw[RVs] at h;subst h;exact .nil
 |d::ds,_,h=>by
  rw[RVs] at h;obtain⟨v,vs,rfl,r,t⟩:=h;exact .cons r (RVs.p t)
theorem RVs.of:∀{ds:List D}{xs:List V},Paired (RV K H) ds xs->RVs K H ds xs
 |_,_,.nil=>by rw[RVs]
 |_,_,.cons r t=>by rw[RVs];exact⟨_,_,rfl,r,RVs.of t⟩
theorem RVs.nil:RVs K H [] []:=by rw[RVs]
theorem RVs.cons{d:D}{v:V}{ds:List D}{vs:List V}(r:RV K H d v)(t:RVs K H ds vs):RVs K H (d::ds) (v::vs):=by rw[RVs];exact⟨_,_,rfl,r,t⟩
theorem RVs.len{ds:List D}{xs:List V}(h:RVs K H ds xs):ds.length=xs.length:=kB h.p
def Kp(H H':Hp):Prop:=(∀a xs,Rd H a (.tup xs)->Rd H' a (.tup xs))/\∀a u o,H a=some (.frz u o)->H' a=some (.frz u o)
theorem Kp.refl(H:Hp):Kp H H:=⟨fun _ _ h=>h,fun _ _ _ h=>h⟩
theorem Kp.trans(a:Kp H H')(b:Kp H' H''):Kp H H'':=⟨fun c xs h=>b.1 c xs (a.1 c xs h),fun c u o h=>b.2 c u o (a.2 c u o h)⟩
theorem Kp.new{p:Addr}{o:HO}(h:H p=none):Kp H (upd H p o):=⟨fun a xs r=>by
 rcases r with r | ⟨u,r⟩
 ·exact .inl (by rw[aI (ba r h)];exact r)
 ·exact .inr ⟨u,by rw[aI (ba r h)];exact r⟩,fun a u o r=>by rw[aI (ba r h)];exact r⟩
def IF:HO->Prop
 |.tup _=>False
 |.frz _ _=>False
 |_=>True
theorem Kp.put{p:Addr}{o o':HO}(h:H p=some o)(n:IF o):Kp H (upd H p o'):=⟨fun a xs r=>by
 rcases r with r | ⟨u,r⟩
 ·have:a≠p:=fun e=>by subst e;rw[h] at r;cases r;exact n
  exact .inl (by rw[aI this];exact r)
 ·have:a≠p:=fun e=>by subst e;rw[h] at r;cases r;exact n
  exact .inr ⟨u,by rw[aI this];exact r⟩,fun a u o r=>by
  have:a≠p:=fun e=>by subst e;rw[h] at r;cases r;exact n
  rw[aI this];exact r⟩
theorem Kp.sq(t:Kp H H'){a:Addr}{xs:List V}(h:SqT K H a xs):SqT K H' a xs:=by
 rcases h with h | h
 ·exact .inl (t.1 a xs h)
 ·exact .inr h
mutual
theorem RV.mono(t:Kp H H'):∀(d:D){v:V},RV K H d v->RV K H' d v
 |.non,_,h=>by rw[RV] at h ⊢;exact h
 |.bl _,_,h=>by rw[RV] at h ⊢;exact h
 |.int _,_,h=>by rw[RV] at h ⊢;exact h
 |.str _,_,h=>by rw[RV] at h ⊢;exact h
 |.ref _,_,h=>by rw[RV] at h ⊢;exact h
 |.ty _,_,h=>by rw[RV] at h ⊢;exact h
 |.tup ds,_,h=>by
  rw[RV] at h ⊢;obtain⟨a,xs,e,s,r⟩:=h;exact⟨a,xs,e,t.sq s,RVs.mono t ds r⟩
theorem RVs.mono(t:Kp H H'):∀(ds:List D){xs:List V},RVs K H ds xs->RVs K H' ds xs
 |[],_,h=>by rw[RVs] at h ⊢;exact h
 |d::ds,_,h=>by
  rw[RVs] at h ⊢;obtain⟨v,vs,e,r,q⟩:=h;exact⟨v,vs,e,RV.mono t d r,RVs.mono t ds q⟩
end
theorem RV.non_{v:V}:RV K H .non v↔v=.non:=by rw[RV]
theorem RV.bl_{v:V}{b:Bool}:RV K H (.bl b) v↔v=.bl b:=by rw[RV]
theorem RV.int_{v:V}{b:Int}:RV K H (.int b) v↔v=.int b:=by rw[RV]
theorem RV.str_{v:V}{b:Str}:RV K H (.str b) v↔v=.str b:=by rw[RV]
theorem RV.ref_{v:V}{b:Addr}:RV K H (.ref b) v↔v=.ref b:=by rw[RV]
theorem RV.ty_{v:V}{b:String}:RV K H (.ty b) v↔v=.ty b:=by rw[RV]
theorem RV.tup_{v:V}{ds:List D}:RV K H (.tup ds) v ↔ ∃a xs,v=.ref a/\SqT K H a xs/\RVs K H ds xs:=by rw[RV]
inductive MO where
 |lst (ds:List D) | rol (ds:List D) | dic (kvs:List (Key×D)) | rod (kvs:List (Key×D)) | ins (C:Addr) (fs:List (Str×D))
abbrev MH:=Addr->Option MO
def updM(M:MH)(a:Addr)(o:MO):MH:=fun b=>if b=a then some o else M b
theorem ab{M:MH}{a:Addr}{o:MO}:updM M a o a=some o:=by unfold updM;rw[if_pos rfl]
theorem aH{M:MH}{a b:Addr}{o:MO}(h:b≠a):updM M a o b=M b:=by unfold updM;rw[if_neg h]
def RO(K:PySem.W.Frag)(H:Hp)(a:Addr):MO->Prop
 |.lst ds=>∃xs,H a=some (.lst xs)/\RVs K H ds xs
 |.rol ds=>∃xs,Rd H a (.lst xs)/\RVs K H ds xs
 |.dic kvs=>∃kws:List (Key×V),H a=some (.dK kws)/\kws.map (·.1)=kvs.map (·.1)/\RVs K H (kvs.map (·.2)) (kws.map (·.2))
 |.rod kvs=>∃(u:Obj) (kws:List (Key×V)),H a=some (.frz u (.dK kws))/\kws.map (·.1)=kvs.map (·.1)/\RVs K H (kvs.map (·.2)) (kws.map (·.2))
 |.ins C fs=>∃(dx:Addr) (gs:List (Str×V)),H a=some (.ins C dx gs)/\gs.map (·.1)=fs.map (·.1)/\RVs K H (fs.map (·.2)) (gs.map (·.2))
def RM(K:PySem.W.Frag)(M:MH)(H:Hp):Prop:=∀a o,M a=some o->RO K H a o
theorem RO.stay{a:Addr}{o:MO}(h:RO K H a o)(t:Kp H H')(e:H' a=H a):RO K H' a o:=by
 cases o with
 |lst ds=>obtain⟨xs,q,r⟩:=h;exact⟨xs,e.trans q,RVs.mono t _ r⟩
 |rol ds=>
  obtain⟨xs,q,r⟩:=h;refine⟨xs,?_,RVs.mono t _ r⟩;rcases q with q | ⟨u,q⟩
  ·exact .inl (e.trans q)
  ·exact .inr ⟨u,e.trans q⟩
 |dic kvs=>obtain⟨kws,q,k,r⟩:=h;exact⟨kws,e.trans q,k,RVs.mono t _ r⟩
 |rod kvs=>obtain⟨u,kws,q,k,r⟩:=h;exact⟨u,kws,e.trans q,k,RVs.mono t _ r⟩
 |ins C fs=>obtain⟨dx,gs,q,k,r⟩:=h;exact⟨dx,gs,e.trans q,k,RVs.mono t _ r⟩
theorem RO.some{a:Addr}{o:MO}(h:RO K H a o):H a≠none:=by
 cases o with
 |lst ds=>obtain⟨xs,q,_⟩:=h;rw[q];exact fun z=>nomatch z
 |rol ds=>obtain⟨xs,q | ⟨u,q⟩,_⟩:=h<;>(rw[q];exact fun z=>nomatch z)
 |dic kvs=>obtain⟨kws,q,_⟩:=h;rw[q];exact fun z=>nomatch z
 |rod kvs=>obtain⟨u,kws,q,_⟩:=h;rw[q];exact fun z=>nomatch z
 |ins C fs=>obtain⟨dx,gs,q,_⟩:=h;rw[q];exact fun z=>nomatch z
theorem RM.fresh{M:MH}{p:Addr}(h:RM K M H)(e:H p=none):M p=none:=by
 cases q:M p with
 |none=>rfl
 |some o=>exact absurd e (h p o q).some
theorem RM.newH{M:MH}{p:Addr}{o:HO}(h:RM K M H)(e:H p=none):RM K M (upd H p o):=fun a u q=>
 (h a u q).stay (Kp.new e) (aI (fun z=>by subst z;exact(h a u q).some e))
theorem RM.new{M:MH}{p:Addr}{o:HO}{m:MO}(h:RM K M H)(e:H p=none)(r:RO K (upd H p o) p m):RM K (updM M p m) (upd H p o):=fun a u q=>by
 by_cases z:a=p
 ·subst z;rw[ab] at q;cases q;exact r
 ·rw[aH z] at q;exact(h a u q).stay (Kp.new e) (aI z)
theorem RM.put{M:MH}{p:Addr}{o o':HO}{m:MO}(h:RM K M H)(e:H p=some o)(n:IF o)(r:RO K (upd H p o') p m):RM K (updM M p m) (upd H p o'):=fun a u q=>by
 by_cases z:a=p
 ·subst z;rw[ab] at q;cases q;exact r
 ·rw[aH z] at q;exact(h a u q).stay (Kp.put e n) (aI z)
abbrev DS:=List (Option D)
def RS(K:PySem.W.Frag)(H:Hp)(σ:DS)(ρ:L2.St):Prop:=Paired (fun(od:Option D) (ov:Option V)=>∀d,od=some d->∃v,ov=some v/\RV K H d v) σ ρ
theorem RS.mono{σ:DS}{ρ:L2.St}(t:Kp H H')(h:RS K H σ ρ):RS K H' σ ρ:=kC (fun od ov r d e=>let⟨v,q,s⟩:=r d e;⟨v,q,RV.mono t d s⟩) h
theorem RS.get{σ:DS}{ρ:L2.St}{i:Nat}{d:D}(h:RS K H σ ρ)(e:σ[i]?=some (some d)):∃v,ρ[i]?=some (some v)/\RV K H d v:=by
 obtain⟨ov,q,r⟩:=d5 h e;obtain⟨v,rfl,s⟩:=r d rfl;exact⟨v,q,s⟩
theorem RS.set{σ:DS}{ρ:L2.St}{d:D}{v:V}(i:Nat)(h:RS K H σ ρ)(r:RV K H d v):RS K H (σ.set i (some d)) (ρ.set i (some v)):=zL (by intro d' e;cases e;exact⟨v,rfl,r⟩) i h
theorem RS.more{σ:DS}{ρ:L2.St}(n:Nat)(h:RS K H σ ρ):RS K H (σ++List.replicate n none) (ρ++List.replicate n none):=bd h (lY (fun d e=>nomatch e) n)
end
abbrev DK:=D->MH->Prop
abbrev WE:=DS->MH->DK->Prop
abbrev WT:=DS->MH->(Bool->MH->Prop)->Prop
abbrev WA:=DS->MH->(List D->MH->Prop)->Prop
def lift(K:PySem.W.Frag)(H:Hp)(Q:DK):VK:=fun v H'=>Kp H H'/\∃d M',RV K H' d v/\RM K M' H'/\Q d M'
def zr(K:PySem.W.Frag)(H:Hp)(Q:Bool->MH->Prop):Bool->Hp->Prop:=fun b H'=>Kp H H'/\∃M',RM K M' H'/\Q b M'
def MJ(K:PySem.W.Frag)(H:Hp)(n:Nat)(Q:List D->MH->Prop):List V->Hp->Prop:=fun vs H'=>Kp H H'/\∃ds M',RVs K H' ds vs/\ds.length=n/\RM K M' H'/\Q ds M'
section
variable (X : Cx)
def tW(e:Expr):TE:=fun ρ H Q=>∀pins s,Inv X pins ρ H s->wpAny (model X.prog X.w) X.A (eval e X.env) (EP X pins ρ Q) X.xe s
def tWT(e:Expr):TT:=fun ρ H Q=>∀pins s,Inv X pins ρ H s->wpAny (model X.prog X.w) X.A (isTrue e X.env (eval e X.env)) (TP X pins ρ Q) X.xe s
def tWA(es:List Expr):TA:=fun ρ H Q=>∀pos pins s,Inv X pins ρ H s->wpAny (model X.prog X.w) X.A (spliced (backTo pos (starEach es X.env))) (AP X pins ρ Q) X.xe s
def tWS(st:Stmt):L2.TS:=fun D ρ H=>∀pins s,Inv X pins ρ H s->wpAny (model X.prog X.w) X.A (exec st X.env) (SP X pins D) X.xe s
end
end DD
namespace DD
open PySem PySem.Spec PyProof.Rows L2
section
variable {X : Cx} {e a b c : Expr} {es : List Expr} {ρ : L2.St} {H H' : Hp} {pos : Pos}
theorem pe_W(e:Expr):PE X e (tW X e):=fun pins s _ _ _ I h=>h pins s I
theorem pt_W(e:Expr):PT X e (tWT X e):=fun pins s _ _ _ I h=>h pins s I
theorem pa_W(es:List Expr):PA X es (tWA X es):=fun pos pins s _ _ _ I h=>h pos pins s I
theorem bz{t:TE}{Q:VK}(h:PE X e t)(q:t ρ H Q):tW X e ρ H Q:=fun pins s I=>h pins s ρ H Q I q
theorem zM{t:TT}{Q:Bool->Hp->Prop}(h:PT X e t)(q:t ρ H Q):tWT X e ρ H Q:=fun pins s I=>h pins s ρ H Q I q
theorem FP{t:TA}{Q:List V->Hp->Prop}(h:PA X es t)(q:t ρ H Q):tWA X es ρ H Q:=fun pos pins s I=>h pos pins s ρ H Q I q
theorem aK{Q Q':VK}(h:tW X e ρ H Q)(f:∀v H',Q v H'->Q' v H'):tW X e ρ H Q':=fun pins s I=>thn (h pins s I) fun _ _ ⟨v,H',I',r,q⟩=>⟨v,H',I',r,f v H' q⟩
theorem iD{Q Q':Bool->Hp->Prop}(h:tWT X e ρ H Q)(f:∀v H',Q v H'->Q' v H'):tWT X e ρ H Q':=fun pins s I=>thn (h pins s I) fun _ _ ⟨H',I',q⟩=>⟨H',I',f _ H' q⟩
theorem dO{Q Q':List V->Hp->Prop}(h:tWA X es ρ H Q)(f:∀v H',Q v H'->Q' v H'):tWA X es ρ H Q':=fun pos pins s I=>thn (h pos pins s I) fun _ _ ⟨v,H',I',r,q⟩=>⟨v,H',I',r,f v H' q⟩
theorem bN{K:PySem.W.Frag}{Q:DK}{v:V}{H2:Hp}(k:Kp H H')(h:lift K H' Q v H2):lift K H Q v H2:=⟨k.trans h.1,h.2⟩
theorem zN{K:PySem.W.Frag}{Q:Bool->MH->Prop}{v:Bool}{H2:Hp}(k:Kp H H')(h:zr K H' Q v H2):zr K H Q v H2:=⟨k.trans h.1,h.2⟩
theorem aA{K:PySem.W.Frag}{Q:DK}{v:V}{d:D}{M:MH}(r:RV K H d v)(m:RM K M H)(q:Q d M):lift K H Q v H:=⟨Kp.refl H,d,M,r,m,q⟩
def PEd(X:Cx)(e:Expr)(t:WE):Prop:=∀σ M ρ H Q,RS X.K H σ ρ->RM X.K M H->t σ M Q->tW X e ρ H (lift X.K H Q)
def PTd(X:Cx)(e:Expr)(t:WT):Prop:=∀σ M ρ H Q,RS X.K H σ ρ->RM X.K M H->t σ M Q->tWT X e ρ H (zr X.K H Q)
def PAd(X:Cx)(es:List Expr)(t:WA):Prop:=∀σ M ρ H Q,RS X.K H σ ρ->RM X.K M H->t σ M Q->tWA X es ρ H (MJ X.K H es.length Q)
def Bif(b:Bool)(A B:Prop):Prop:=match b with
 |true=>A
 |false=>B
theorem aU{A B:Prop}:Bif true A B=A:=rfl
theorem aM{A B:Prop}:Bif false A B=B:=rfl
theorem Bif2{b:Bool}{A B:Prop}(h1:b=true->A)(h2:b=false->B):Bif b A B:=by
 cases b with
 |true=>exact h1 rfl
 |false=>exact h2 rfl
theorem Du{p:Prop}[Decidable p]{A B:Prop}(h1:p->A)(h2:¬p->B):Bif (decide p) A B:=Bif2 (fun e=>h1 (of_decide_eq_true e)) (fun e=>h2 (of_decide_eq_false e))
def getS(σ:DS)(i:Nat)(Q:D->Prop):Prop:=match σ[i]? with
 |some (some d)=>Q d
 |_=>False
theorem Jy{σ:DS}{i:Nat}{Q:D->Prop}(h:getS σ i Q):∃d,σ[i]?=some (some d)/\Q d:=by
 unfold getS at h;split at h
 ·exact⟨_,by assumption,h⟩
 ·exact False.elim h
theorem Jz{i:Nat}{x:Str}(hN:X.N[i]?=some x)(hv:Vis X.env.scope x)(hd:(x==("__debug__" : Str))=false)(hcd:(x==("__classdict__" : Str))=false):PEd X (.Name x pos) (fun σ M Q=>getS σ i fun d=>Q d M):=by
 intro σ M ρ H Q rs rm h;obtain⟨d,e,q⟩:=Jy h;obtain⟨v,e',r⟩:=rs.get e;exact bz (KF hN hv hd hcd) ⟨v,e',aA r rm q⟩
theorem rg{d:D}{v:V}(h:PE X e (tC v))(r:∀H,RV X.K H d v):PEd X e (fun _ M Q=>Q d M):=fun _ _ _ H _ _ rm q=>bz h (aA (r H) rm q)
theorem JA{i:Int}{j:Nat}:PEd X (.Constant (.int i) j pos) (fun _ M Q=>Q (.int i) M):=rg KG fun _=>RV.int_.2 rfl
theorem Lu{i:Bool}{j:Nat}:PEd X (.Constant (.bool i) j pos) (fun _ M Q=>Q (.bl i) M):=rg Me fun _=>RV.bl_.2 rfl
theorem JB{i:Str}{j:Nat}:PEd X (.Constant (.str i) j pos) (fun _ M Q=>Q (.str i) M):=rg KI fun _=>RV.str_.2 rfl
theorem JC{j:Nat}:PEd X (.Constant .none j pos) (fun _ M Q=>Q .non M):=rg KH fun _=>RV.non_.2 rfl
def qe(K:PySem.W.Frag)(mg:Str->Option Value)(x:Str)(d:D):Prop:=∃v u,mg x=some u/\RelV v u/\∀H,RV K H d v
theorem Hj{x:Str}{d:D}(hg:Gl X x)(h:qe X.K X.mg x d)(hd:(x==("__debug__" : Str))=false):PEd X (.Name x pos) (fun _ M Q=>Q d M):=by
 obtain⟨v,u,hm,r,rv⟩:=h;exact rg (IT hg hm r hd) rv
def oW(X:Cx)(f:Value->Value->Sem Value):R2:=fun x y H Q=>∀pins s ρ v u,Inv X pins ρ H s->RelV x v->RelV y u->wpAny (model X.prog X.w) X.A (f v u) (EP X pins ρ Q) X.xe s
theorem op_W(f:Value->Value->Sem Value):OpR X f (oW X f):=fun pins s σ _ _ _ v u _ I rx ry h=>h pins s σ v u I rx ry
theorem ii{f:Value->Value->Sem Value}{r:R2}{x y:V}{Q:VK}(h:OpR X f r)(q:r x y H Q):oW X f x y H Q:=fun pins s ρ v u I rx ry=>h pins s ρ H x y v u Q I rx ry q
theorem wV{f:Value->Value->Sem Value}{x y:V}{Q Q':VK}(h:oW X f x y H Q)(g:∀v H',Q v H'->Q' v H'):oW X f x y H Q':=fun pins s ρ v u I rx ry=>thn (h pins s ρ v u I rx ry) fun _ _ ⟨v,H',I',r,q⟩=>⟨v,H',I',r,g v H' q⟩
abbrev R2d:=D->D->MH->DK->Prop
def OpD(X:Cx)(f:Value->Value->Sem Value)(r:R2d):Prop:=∀x y v u H M Q,RV X.K H x v->RV X.K H y u->RM X.K M H->r x y M Q->oW X f v u H (lift X.K H Q)
theorem two{ta tb:WE}{σ:DS}{M:MH}{R:D->D->MH->Prop}(ha:PEd X a ta)(hb:PEd X b tb)(rs:RS X.K H σ ρ)(rm:RM X.K M H)(h:ta σ M fun x M1=>tb σ M1 fun y M2=>R x y M2):
  tW X a ρ H fun v H1=>tW X b ρ H1 fun u H2=>Kp H H2/\∃x y M2,RV X.K H2 x v/\RV X.K H2 y u/\RM X.K M2 H2/\R x y M2:=by
 refine aK (ha σ M ρ H _ rs rm h) ?_;rintro v H1 ⟨k1,x,M1,r1,m1,h1⟩;refine aK (hb σ M1 ρ H1 _ (rs.mono k1) m1 h1) ?_;rintro u H2 ⟨k2,y,M2,r2,m2,h2⟩;exact⟨k1.trans k2,x,y,M2,RV.mono k2 x r1,r2,m2,h2⟩
def wOp(r:R2d)(ta tb:WE):WE:=fun σ M Q=>ta σ M fun x M1=>tb σ M1 fun y M2=>r x y M2 Q
theorem JD{op:Operator}{r:R2d}{ta tb:WE}(ho:OpD X (binaryOp op) r)(ha:PEd X a ta)(hb:PEd X b tb):PEd X (.BinOp a op b pos) (wOp r ta tb):=by
 intro σ M ρ H Q rs rm h;refine bz (Mn (op_W _) (pe_W a) (pe_W b)) ?_;show tW X a ρ H _;refine aK (two ha hb rs rm h) fun v H1 q1=>?_
 show tW X b ρ H1 _;refine aK q1 fun u H2 zz1=>?_
 obtain⟨k,x,y,M2,r1,r2,m2,q⟩:=zz1;exact wV (ho x y v u H2 M2 Q r1 r2 m2 q) fun _ _=>bN k
theorem JE{op:CmpOp}{r:R2d}{ta tb:WE}(ho:OpD X (compareOp op) r)(ha:PEd X a ta)(hb:PEd X b tb)(hm:behindInMarks op b=false):PEd X (.Compare a [op] [b] pos) (wOp r ta tb):=by
 intro σ M ρ H Q rs rm h;refine bz (Jc (op_W _) (pe_W a) (pe_W b) hm) ?_;show tW X a ρ H _;refine aK (two ha hb rs rm h) fun v H1 q1=>?_
 show tW X b ρ H1 _;refine aK q1 fun u H2 zz2=>?_
 obtain⟨k,x,y,M2,r1,r2,m2,q⟩:=zz2;exact wV (ho x y v u H2 M2 Q r1 r2 m2 q) fun _ _=>bN k
def rh(x:D)(Q:Bool->Prop):Prop:=match x with
 |.bl b=>Q b
 |_=>False
theorem ou{x:D}{Q:Bool->Prop}(h:rh x Q):∃b,x=.bl b/\Q b:=by
 cases x with
 |bl b=>exact⟨b,rfl,h⟩
 |_=>exact False.elim h
def Ek(t:WE):WT:=fun σ M Q=>t σ M fun x M1=>rh x fun b=>Q b M1
theorem JF{op:CmpOp}{r:R2d}{ta tb:WE}(ho:OpD X (compareOp op) r)(ha:PEd X a ta)(hb:PEd X b tb)(hm:behindInMarks op b=false):PTd X (.Compare a [op] [b] pos) (Ek (wOp r ta tb)):=by
 intro σ M ρ H Q rs rm h;refine zM (Jd (op_W _) (pe_W a) (pe_W b) hm) ?_;show tW X a ρ H _;refine aK (two ha hb rs rm h) fun v H1 q1=>?_
 show tW X b ρ H1 _;refine aK q1 fun u H2 zz3=>?_
 obtain⟨k,x,y,M2,r1,r2,m2,q⟩:=zz3;refine wV (ho x y v u H2 M2 _ r1 r2 m2 q) fun z H3 zz4=>?_
 obtain⟨k3,d,M3,r3,m3,q3⟩:=zz4;obtain⟨c,rfl,q3⟩:=ou q3;exact⟨c,RV.bl_.1 r3,k.trans k3,M3,m3,q3⟩
def wAnd(t u:WT):WT:=fun σ M Q=>t σ M fun c M1=>Bif c (u σ M1 Q) (Q false M1)
def wOr(t u:WT):WT:=fun σ M Q=>t σ M fun c M1=>Bif c (Q true M1) (u σ M1 Q)
def wNot(t:WT):WT:=fun σ M Q=>t σ M fun c M1=>Q (!c) M1
theorem JG{t:WT}(h:PTd X a t):PTd X (.UnaryOp .Not a pos) (wNot t):=by
 intro σ M ρ H Q rs rm q;refine zM (KL (pt_W a)) ?_;show tWT X a ρ H _;exact iD (h σ M ρ H _ rs rm q) fun c H1 q1=>q1
def PWd(X:Cx)(e:Expr)(t:WT):Prop:=∀σ M ρ H Q,RS X.K H σ ρ->RM X.K M H->t σ M Q->∀whole pins s,Inv X pins ρ H s->wpAny (model X.prog X.w) X.A (isTrue e X.env whole) (TP X pins ρ (zr X.K H Q)) X.xe s
theorem PWd.pt{t:WT}(h:PWd X e t):PTd X e t:=fun σ M ρ H Q rs rm q pins s I=>h σ M ρ H Q rs rm q _ pins s I
def tWW(X:Cx)(e:Expr):TT:=fun ρ H Q=>∀whole pins s,Inv X pins ρ H s->wpAny (model X.prog X.w) X.A (isTrue e X.env whole) (TP X pins ρ Q) X.xe s
theorem pw_W(e:Expr):PW X e (tWW X e):=fun whole pins s _ _ _ I h=>h whole pins s I
theorem zO{Q Q':Bool->Hp->Prop}(h:tWW X e ρ H Q)(f:∀v H',Q v H'->Q' v H'):tWW X e ρ H Q':=fun whole pins s I=>thn (h whole pins s I) fun _ _ ⟨H',I',q⟩=>⟨H',I',f _ H' q⟩
theorem uu{t:TT}{Q:Bool->Hp->Prop}(h:PW X e t)(q:t ρ H Q):tWW X e ρ H Q:=fun whole pins s I=>h whole pins s ρ H Q I q
theorem Hk{t:WT}(h:PTd X a t):PWd X (.BoolOp .And [a] pos) t:=fun σ M ρ H Q rs rm q=>uu (IV (pt_W a)) (h σ M ρ H Q rs rm q)
theorem JH{t:WT}(h:PTd X a t):PWd X (.BoolOp .Or [a] pos) t:=fun σ M ρ H Q rs rm q=>uu (KJ (pt_W a)) (h σ M ρ H Q rs rm q)
theorem Dv{t u:WT}{rest:List Expr}(h:PTd X a t)(h':PWd X (.BoolOp .And (b::rest) pos) u):PWd X (.BoolOp .And (a::b::rest) pos) (wAnd t u):=by
 intro σ M ρ H Q rs rm q;refine uu (KK (pt_W a) (pw_W _)) ?_;show tWT X a ρ H _;refine iD (h σ M ρ H _ rs rm q) fun c H1 zz5=>?_
 obtain⟨k1,M1,m1,q1⟩:=zz5;cases c with
 |true=>exact zO (h' σ M1 ρ H1 Q (rs.mono k1) m1 q1) fun _ _=>zN k1
 |false=>exact⟨k1,M1,m1,q1⟩
theorem FQ{t u:WT}{rest:List Expr}(h:PTd X a t)(h':PWd X (.BoolOp .Or (b::rest) pos) u):PWd X (.BoolOp .Or (a::b::rest) pos) (wOr t u):=by
 intro σ M ρ H Q rs rm q;refine uu (Mf (pt_W a) (pw_W _)) ?_;show tWT X a ρ H _;refine iD (h σ M ρ H _ rs rm q) fun c H1 zz6=>?_
 obtain⟨k1,M1,m1,q1⟩:=zz6;cases c with
 |false=>exact zO (h' σ M1 ρ H1 Q (rs.mono k1) m1 q1) fun _ _=>zN k1
 |true=>exact⟨k1,M1,m1,q1⟩
def El(ta tb:WE):WE:=fun σ M Q=>ta σ M fun x M1=>rh x fun c=>Bif c (tb σ M1 Q) (Q (.bl false) M1)
def wOrV(ta tb:WE):WE:=fun σ M Q=>ta σ M fun x M1=>rh x fun c=>Bif c (Q (.bl true) M1) (tb σ M1 Q)
def Em(ta:WE):WE:=fun σ M Q=>ta σ M fun x M1=>rh x fun c=>Q (.bl (!c)) M1
theorem Dw{op:BoolOp}{t:WE}(h:PEd X a t):PEd X (.BoolOp op [a] pos) t:=fun σ M ρ H Q rs rm q=>bz (KM (pe_W a)) (h σ M ρ H Q rs rm q)
theorem Dx{ta tb:WE}{rest:List Expr}(h:PEd X a ta)(h':PEd X (.BoolOp .And (b::rest) pos) tb):PEd X (.BoolOp .And (a::b::rest) pos) (El ta tb):=by
 intro σ M ρ H Q rs rm q;refine bz (KN (pe_W a) (pe_W _)) ?_;show tW X a ρ H _;refine aK (h σ M ρ H _ rs rm q) fun v H1 zz7=>?_
 obtain⟨k1,x,M1,r1,m1,q1⟩:=zz7;obtain⟨c,rfl,q1⟩:=ou q1;refine⟨c,RV.bl_.1 r1,?_⟩;cases c with
 |true=>exact aK (h' σ M1 ρ H1 Q (rs.mono k1) m1 q1) fun _ _=>bN k1
 |false=>exact⟨k1,.bl false,M1,RV.bl_.2 rfl,m1,q1⟩
theorem FR{ta tb:WE}{rest:List Expr}(h:PEd X a ta)(h':PEd X (.BoolOp .Or (b::rest) pos) tb):PEd X (.BoolOp .Or (a::b::rest) pos) (wOrV ta tb):=by
 intro σ M ρ H Q rs rm q;refine bz (Mi (pe_W a) (pe_W _)) ?_;show tW X a ρ H _;refine aK (h σ M ρ H _ rs rm q) fun v H1 zz8=>?_
 obtain⟨k1,x,M1,r1,m1,q1⟩:=zz8;obtain⟨c,rfl,q1⟩:=ou q1;refine⟨c,RV.bl_.1 r1,?_⟩;cases c with
 |false=>exact aK (h' σ M1 ρ H1 Q (rs.mono k1) m1 q1) fun _ _=>bN k1
 |true=>exact⟨k1,.bl true,M1,RV.bl_.2 rfl,m1,q1⟩
theorem JI{ta:WE}(h:PEd X a ta):PEd X (.UnaryOp .Not a pos) (Em ta):=by
 intro σ M ρ H Q rs rm q;refine bz (KO (pe_W a)) ?_;show tW X a ρ H _;refine aK (h σ M ρ H _ rs rm q) fun v H1 zz9=>?_
 obtain⟨k1,x,M1,r1,m1,q1⟩:=zz9;obtain⟨c,rfl,q1⟩:=ou q1;exact⟨c,RV.bl_.1 r1,k1,.bl (!c),M1,RV.bl_.2 rfl,m1,q1⟩
def wIf(t:WT)(ta tb:WE):WE:=fun σ M Q=>t σ M fun c M1=>Bif c (ta σ M1 Q) (tb σ M1 Q)
theorem FS{t:WT}{ta tb:WE}(hc:PTd X c t)(ha:PEd X a ta)(hb:PEd X b tb):PEd X (.IfExp c a b pos) (wIf t ta tb):=by
 intro σ M ρ H Q rs rm q;refine bz (GW (pt_W c) (pe_W a) (pe_W b)) ?_;show tWT X c ρ H _;refine iD (hc σ M ρ H _ rs rm q) fun k H1 zz10=>?_
 obtain⟨k1,M1,m1,q1⟩:=zz10;cases k with
 |true=>exact aK (ha σ M1 ρ H1 Q (rs.mono k1) m1 q1) fun _ _=>bN k1
 |false=>exact aK (hb σ M1 ρ H1 Q (rs.mono k1) m1 q1) fun _ _=>bN k1
def rdL:Option MO->Option (List D)
 |some (.lst ds)=>some ds
 |some (.rol ds)=>some ds
 |_=>none
def truD (x:D) (M:MH) (Q:Bool->Prop):Prop:=match x with
 | .non=>Q false
 | .bl b=>Q b
 | .int i=>Q (i != 0)
 | .str y=>y.length<=sizeLine/\Q ((y.length:Int) != 0)
 | .tup ds=>Q (!ds.isEmpty)
 | .ref a=>match M a with
  | some (.lst ds)=>Q (!ds.isEmpty)
  | some (.rol ds)=>Q (!ds.isEmpty)
  | some (.dic kvs)=>Q (!kvs.isEmpty)
  | _=>False
 | .ty _=>False
theorem rj{α β:Type}{l:List α}{m:List β}(h:l.length=m.length):l.isEmpty=m.isEmpty:=by
 cases l<;>cases m<;>simp_all
theorem JJ{K:PySem.W.Frag}{M:MH}{x:D}{v:V}{Q:Bool->Prop}(r:RV K H x v)(m:RM K M H)(h:truD x M Q):∃k,TruV K v H k/\Q k:=by
 cases x with
 |non=>cases RV.non_.1 r;exact⟨_,rfl,h⟩
 |bl b=>cases RV.bl_.1 r;exact⟨_,rfl,h⟩
 |int i=>cases RV.int_.1 r;exact⟨_,rfl,h⟩
 |str y=>cases RV.str_.1 r;exact⟨_,⟨h.1,rfl⟩,h.2⟩
 |ty n=>exact False.elim h
 |tup ds=>
  obtain⟨a,xs,rfl,s,rr⟩:=RV.tup_.1 r;exact⟨_,.inr (.inl ⟨xs,s,rfl⟩),by rw[←rj rr.len];exact h⟩
 |ref a=>
  cases RV.ref_.1 r;have h:match M a with
   |some (.lst ds)=>Q (!ds.isEmpty)
   |some (.rol ds)=>Q (!ds.isEmpty)
   |some (.dic kvs)=>Q (!kvs.isEmpty)
   |_=>False:=h
  split at h
  ·rename_i ds e
   obtain⟨xs,q,rr⟩:=m a _ e;exact⟨_,.inl ⟨xs,SqL.of q,rfl⟩,by rw[←rj rr.len];exact h⟩
  ·rename_i ds e
   obtain⟨xs,q,rr⟩:=m a _ e;exact⟨_,.inl ⟨xs,.inl q,rfl⟩,by rw[←rj rr.len];exact h⟩
  ·rename_i kvs e
   obtain⟨kws,q,k,rr⟩:=m a _ e;refine⟨_,.inr (.inr ⟨kws,q,rfl⟩),?_⟩;have:kws.length=kvs.length:=by have:=congrArg List.length k;simpa using this
   rw[rj this];exact h
  ·exact False.elim h
def wTru(t:WE):WT:=fun σ M Q=>t σ M fun x M1=>truD x M1 fun k=>Q k M1
theorem JK{t:WE}(h:PEd X a t)(he:∀whole,isTrue a X.env whole=(do let v ←whole;standAt a.pos;holding [v] (truthy v))):PTd X a (wTru t):=by
 intro σ M ρ H Q rs rm q;refine zM (G2 (pe_W a) he) ?_;show tW X a ρ H _;refine aK (h σ M ρ H _ rs rm q) fun v H1 zz11=>?_
 obtain⟨k1,x,M1,r1,m1,q1⟩:=zz11;obtain⟨k,t1,q2⟩:=JJ r1 m1 q1;exact⟨k,t1,k1,M1,m1,q2⟩
def wNil:WA:=fun _ M Q=>Q [] M
def En(t:WE)(u:WA):WA:=fun σ M Q=>t σ M fun x M1=>u σ M1 fun xs M2=>Q (x::xs) M2
theorem JL:PAd X [] wNil:=fun σ M ρ H Q rs rm q=>FP Le ⟨Kp.refl H,[],M,RVs.nil,rfl,rm,q⟩
theorem Hl{t:WE}{u:WA}(h:PEd X e t)(h':PAd X es u)(hs:aw e=true):PAd X (e::es) (En t u):=by
 intro σ M ρ H Q rs rm q;refine FP (Jh (pe_W e) (pa_W es) (bh hs)) ?_;show tW X e ρ H _;refine aK (h σ M ρ H _ rs rm q) fun v H1 zz12=>?_
 obtain⟨k1,x,M1,r1,m1,q1⟩:=zz12;show tWA X es ρ H1 _;refine dO (h' σ M1 ρ H1 _ (rs.mono k1) m1 q1) fun vs H2 zz13=>?_
 obtain⟨k2,xs,M2,r2,l2,m2,q2⟩:=zz13;exact⟨k1.trans k2,x::xs,M2,RVs.cons (RV.mono k2 x r1) r2,by simp[l2],m2,q2⟩
def wTup(t:WA):WE:=fun σ M Q=>t σ M fun xs M1=>Q (.tup xs) M1
def wLst(t:WA):WE:=fun σ M Q=>t σ M fun xs M1=>∀p,M1 p=none->Q (.ref p) (updM M1 p (.lst xs))
theorem JM{t:WA}{k:Nat}(h:PAd X es t)(hz:es.length<=1000):PEd X (.Tuple es k pos) (wTup t):=by
 intro σ M ρ H Q rs rm q;refine bz (Lf (pa_W es)) ?_;show tWA X es ρ H _;refine dO (h σ M ρ H _ rs rm q) fun vs H1 zz14=>?_
 obtain⟨k1,xs,M1,r1,l1,m1,q1⟩:=zz14;refine⟨?_,fun p hp=>?_⟩
 ·rw[←r1.len,l1];exact Nat.le_of_lt (x4 hz)
 ·have k2:Kp H1 (upd H1 p (.tup vs)):=Kp.new hp
  exact⟨k1.trans k2,.tup xs,M1,RV.tup_.2 ⟨p,vs,rfl,SqT.of aC,RVs.mono k2 _ r1⟩,m1.newH hp,q1⟩
theorem JN{t:WA}(h:PAd X es t)(hz:es.length<=1000):PEd X (.List es pos) (wLst t):=by
 intro σ M ρ H Q rs rm q;refine bz (Lg (pa_W es)) ?_;show tWA X es ρ H _;refine dO (h σ M ρ H _ rs rm q) fun vs H1 zz15=>?_
 obtain⟨k1,xs,M1,r1,l1,m1,q1⟩:=zz15;refine⟨?_,fun p hp=>?_⟩
 ·rw[←r1.len,l1];exact Nat.le_of_lt (x4 hz)
 ·have k2:Kp H1 (upd H1 p (.lst vs)):=Kp.new hp
  exact⟨k1.trans k2,.ref p,_,RV.ref_.2 rfl,m1.new (m:=.lst xs) hp ⟨vs,aC,RVs.mono k2 _ r1⟩,q1 p (m1.fresh hp)⟩
abbrev SpD:=List D->MH->DK->Prop
def iX(K:PySem.W.Frag)(sp:SpD):Sp:=fun vs H Q _=>∃ds M Q0,RVs K H ds vs/\RM K M H/\sp ds M Q0/\∀d M' v H',Q0 d M'->Kp H H'->RV K H' d v->RM K M' H'->Q v H'
def FnD(P:Program)(w:World)(K:PySem.W.Frag)(mg:Str->Option Value)(base:Heap)(k:Nat)(x:Str)(sp:SpD):Prop:=
 ∃st ps f fd,IsDef K mg x st ps f fd/\FnOk P w K mg base CX0 k f fd ps (iX K sp)
theorem dN{env:Env}{pos:Pos}:∀{es:List Expr},es.all aw=true->(backTo pos (starEach es env)).any (·.1)=false
 |[],_=>rfl
 |e::es,h=>by
  rw[List.all_cons,Bool.and_eq_true] at h;rw[bh h.1];show(false||(backTo pos (starEach es env)).any (·.1))=false;rw[dN h.2];rfl
def ij(sp:SpD)(t:WA):WE:=fun σ M Q=>t σ M fun ds M1=>sp ds M1 Q
theorem JO{k:Nat}{x:Str}{sp:SpD}{t:WA}{p:Pos}(F:FnD X.prog X.w X.K X.mg X.base k x sp)(hr:Room k X.A)(hg:Gl X x)(hdb:(x==("__debug__" : Str))=false)(hs:aw e=true)(hss:es.all aw=true)(ha:PAd X (e::es) t):
  PEd X (.Call (.Name x p) (e::es) [] pos) (ij sp t):=by
 obtain⟨st,ps,f,fd,D0,G⟩:=F;intro σ M ρ H Q rs rm q;refine bz (Ls D0 G hr (pa_W (e::es)) hg hdb (bh hs) (dN hss)) ?_;show tWA X (e::es) ρ H _;refine dO (ha σ M ρ H _ rs rm q) fun vs H1 zz16=>?_
 obtain⟨k1,xs,M1,r1,l1,m1,q1⟩:=zz16;rw[List.append_nil];exact⟨xs,M1,Q,r1,m1,q1,fun d M' v H' qd kk rv mm=>⟨k1.trans kk,d,M',rv,mm,qd⟩⟩
end
end DD
namespace DD
open PySem PySem.Spec PyProof.Rows L2
theorem wW{P:Program}{w:World}{k:Key}{u:Value}(h:(bm P w).is k u=true):RelV (kV k) u:=by
 rw[DZ] at h;rcases bA h with⟨i,t,rfl,rfl⟩ | ⟨x,t,rfl,rfl⟩
 ·exact⟨t,rfl⟩
 ·exact⟨t,rfl⟩
def Itd(a:Addr)(u:Obj)(kws:List (Key×V)):It:=
 ⟨fun i H=>H a=some (.frz u (.dK kws))/\i<kws.length,fun i H x H'=>H'=H/\∃kv,kws[i]?=some kv/\x=kV kv.1,fun i H=>H a=some (.frz u (.dK kws))/\kws.length<=i⟩
theorem nr{X:Cx}{pins:List (Addr×Obj)}{σ:L2.St}{H:Hp}{s:Shared}{a:Addr}{u:Obj}{kws:List (Key×V)}(I:Inv X pins σ H s)(h:H a=some (.frz u (.dK kws))):
  (a==sysModules)=false/\kws.length<=sizeLine/\∃vs es ep,KV kws vs/\u.data=.dict es ep/\s.heap.DictAt (bm X.prog X.w) a vs ep:=by
 obtain⟨h1,hz,hd,vs,rel,o,es,ep,ho,r⟩:=(show aY X.prog X.w H s.heap a (.frz u (.dK kws)) from I.hok a _ h);have e:o=u:=by rw[h1] at ho;cases ho;rfl
 subst e;exact⟨hd,hz,vs,es,ep,rel,r.2.1,o,es,ho,r⟩
theorem FT{P:Program}{w:World}{K:PySem.W.Frag}{tg:Expr}(a it:Addr){u:Obj}{kws:List (Key×V)}{es:Array DictEntry}{ep:Nat}(hu:u.data=.dict es ep):
  Turn P w K tg (Itd a u kws) [it] it (fun i h=>h.IsKeyIter it a i kws.length ep) where
 mem:=by simp
 obj:=fun i h st b hb=>by
  have e:b=it:=by simpa using hb
  subst e;obtain⟨o,e,c,d⟩:=st;exact⟨o,e,fun v z=>by rw[d] at z;cases z⟩
 keep:=fun i h h' st k=>st.at fun o e=>k it (by simp) o e
 item:=by
  intro X hP hw hK hc i pins s σ H E I hf st hg;subst hP hw hK;obtain⟨hq,hi⟩:=hg;obtain⟨hd,hz,vs,es',ep',rel,hu',hm⟩:=nr I hq;have ee:ep'=ep:=by rw[hu] at hu';cases hu';rfl
  subst ee;obtain⟨⟨k,x⟩,hx,hr⟩:=d5 rel (List.getElem?_eq_getElem hi);obtain⟨f0,f1,f2,f3,f4,f5⟩:=hf it (by simp);rw[rel.length] at st;refine wpAny_pyNext_dict_item st hm hx fun key h' hkey st' sb=>?_
  have I1:Inv X pins σ H { s with heap:=h' }:=I.turned (t':=s.toks) (fun b o hb e=>(sb.2 b hb).trans e) f0 f1 f3 f4 f5;obtain⟨o,e,c,d⟩:=id st';rw[←rel.length] at st';have hk1:kws[i].1=k:=hr.1;exact⟨key,rfl,rb (s:={ s with heap:=h' }) e c d (by decide) ⟨kV k,H,I1,wW hkey,⟨rfl,kws[i],List.getElem?_eq_getElem hi,by rw[hk1]⟩,st',fun b hb=>(hf b hb).1⟩⟩
 done:=by
  intro X hP hw hK hc i pins s σ H E I hf st hg;subst hP hw hK;obtain⟨hq,hi⟩:=hg;obtain⟨hd,hz,vs,es',ep',rel,hu',hm⟩:=nr I hq;have ee:ep'=ep:=by rw[hu] at hu';cases hu';rfl
  subst ee;obtain⟨f0,f1,f2,f3,f4,f5⟩:=hf it (by simp);rw[rel.length] at st;have hx:vs[i]?=none:=by rw[List.getElem?_eq_none_iff,←rel.length];exact hi
  exact wpAny_pyNext_dict_end (I.ok.hd hc) st hm hx fun h' eb=>⟨rfl,I.turned (t':=s.toks) (fun b o hb e=>eb b o hb e) f0 f1 f3 f4 f5⟩
 self:=fun _ _ _ _ _ st h=>wpAny_pyIter_keyiter st h
section
variable {X : Cx} {ρ : L2.St} {H : Hp}
theorem Dy{pins:List (Addr×Obj)}{s:Shared}{tg:Expr}{a:Addr}{u:Obj}{kws:List (Key×V)}{R:It->Hp->Prop}(I:Inv X pins ρ H s)(hq:H a=some (.frz u (.dK kws)))(q:R (Itd a u kws) H):
  wpAny (model X.prog X.w) X.A (pyIter (.ref a)) (PIE X pins ρ tg R) X.xe s:=by
 obtain⟨hd,hz,vs,es,ep,rel,hu,hm⟩:=nr I hq;refine wpAny_pyIter_dict hd hm ?_;refine⟨s.heap.objs.size,[s.heap.objs.size],_,_,H,rfl,I.kept (t':=s.toks) fun b o e=>Heap.get?_push_of_some _ e,FT a _ hu,⟨_,Heap.get?_push_size _ rfl,rfl,by rw[rel.length];rfl⟩,fun b hb=>?_,q⟩;have e:b=s.heap.objs.size:=by simpa using hb
 subst e;exact I.fpOk (Nat.le_refl _) (I.hok.fresh (Nat.le_refl _))
theorem freeze{pins:List (Addr×Obj)}{s:Shared}{a:Addr}{kws:List (Key×V)}(I:Inv X pins ρ H s)(hq:H a=some (.dK kws)):∃u,Inv X pins ρ (upd H a (.frz u (.dK kws))) s:=by
 obtain⟨hz,hd,vs,rel,dd⟩:=(show aY X.prog X.w H s.heap a (.dK kws) from I.hok a _ hq);obtain⟨o,es,ep,ho,r⟩:=id dd;refine⟨o,?_⟩
 have:=I.write (x:=a) (e:=a) (o:=.frz o (.dK kws)) (h':=s.heap) (t':=s.toks) (by rw[hq];exact trivial) (.inl rfl) (fun b u _ e=>e) ⟨_,ho⟩ ⟨ho,hz,hd,vs,rel,dd⟩
 exact this
end
end DD
namespace DD
open PySem PySem.Spec PyProof.Rows L2
structure EndsD where
 nx:DS->MH->Prop
 rt:DK
 bk:DS->MH->Prop:=fun _ _=>False
 ct:DS->MH->Prop:=fun _ _=>False
abbrev WS:=EndsD->DS->MH->Prop
def uv(K:PySem.W.Frag)(H:Hp)(n:DS->MH->Prop):L2.St->Hp->Prop:=fun ρ' H'=>Kp H H'/\∃σ' M',RS K H' σ' ρ'/\RM K M' H'/\n σ' M'
def zt(K:PySem.W.Frag)(H:Hp)(D:EndsD):Ends:={ nx:=uv K H D.nx,rt:=lift K H D.rt,bk:=uv K H D.bk,ct:=uv K H D.ct }
structure EImp (D D':Ends):Prop where
 nx:∀ρ H,D.nx ρ H->D'.nx ρ H
 rt:∀v H,D.rt v H->D'.rt v H
 bk:∀ρ H,D.bk ρ H->D'.bk ρ H
 ct:∀ρ H,D.ct ρ H->D'.ct ρ H
section
variable {X : Cx} {st : Stmt} {sts : List Stmt} {ρ : L2.St} {H H' : Hp} {pos : Pos} {e : Expr}
theorem lZ{K:PySem.W.Frag}{n:DS->MH->Prop}{ρ':L2.St}{H2:Hp}(k:Kp H H')(h:uv K H' n ρ' H2):uv K H n ρ' H2:=⟨k.trans h.1,h.2⟩
theorem tM{K:PySem.W.Frag}{D:EndsD}(k:Kp H H'):EImp (zt K H' D) (zt K H D):=⟨fun _ _=>lZ k,fun _ _=>bN k,fun _ _=>lZ k,fun _ _=>lZ k⟩
theorem SP.imp{pins:List (Addr×Obj)}{D D':Ends}{f:Flow}{s':Shared}(i:EImp D D')(h:SP X pins D f s'):SP X pins D' f s':=by
 cases f with
 |next=>obtain⟨a,b,c,d⟩:=h;exact⟨a,b,c,i.nx _ _ d⟩
 |brk=>obtain⟨a,b,c,d⟩:=h;exact⟨a,b,c,i.bk _ _ d⟩
 |cont=>obtain⟨a,b,c,d⟩:=h;exact⟨a,b,c,i.ct _ _ d⟩
 |ret u=>obtain⟨v,a,b,c,r,d⟩:=h;exact⟨v,a,b,c,r,i.rt _ _ d⟩
def tWSs(X:Cx)(sts:List Stmt):L2.TS:=fun D ρ H=>∀pins s,Inv X pins ρ H s->wpAny (model X.prog X.w) X.A (execs sts X.env) (SP X pins D) X.xe s
theorem ps_W(st:Stmt):PS X st (tWS X st):=fun pins s _ _ _ I h=>h pins s I
theorem ow(sts:List Stmt):PSs X sts (tWSs X sts):=fun pins s _ _ _ I h=>h pins s I
theorem fM{t:L2.TS}{D:Ends}(h:PS X st t)(q:t D ρ H):tWS X st D ρ H:=fun pins s I=>h pins s ρ H D I q
theorem Dz{t:L2.TS}{D:Ends}(h:PSs X sts t)(q:t D ρ H):tWSs X sts D ρ H:=fun pins s I=>h pins s ρ H D I q
theorem Hm{D D':Ends}(h:tWS X st D ρ H)(i:EImp D D'):tWS X st D' ρ H:=fun pins s I=>thn (h pins s I) fun _ _ q=>SP.imp i q
theorem fN{D D':Ends}(h:tWSs X sts D ρ H)(i:EImp D D'):tWSs X sts D' ρ H:=fun pins s I=>thn (h pins s I) fun _ _ q=>SP.imp i q
def PSd(X:Cx)(st:Stmt)(t:WS):Prop:=∀σ M ρ H D,RS X.K H σ ρ->RM X.K M H->t D σ M->tWS X st (zt X.K H D) ρ H
def PSsd(X:Cx)(sts:List Stmt)(t:WS):Prop:=∀σ M ρ H D,RS X.K H σ ρ->RM X.K M H->t D σ M->tWSs X sts (zt X.K H D) ρ H
def uw:WS:=fun D σ M=>D.nx σ M
def wSeq(t u:WS):WS:=fun D σ M=>t { D with nx:=u D } σ M
theorem Hn:PSsd X [] uw:=fun σ M ρ H D rs rm q=>Dz IW ⟨Kp.refl H,σ,M,rs,rm,q⟩
theorem FU{t u:WS}(h:PSd X st t)(h':PSsd X sts u):PSsd X (st::sts) (wSeq t u):=by
 intro σ M ρ H D rs rm q;refine Dz (GX (ps_W st) (ow sts)) ?_;show tWS X st _ ρ H;refine Hm (h σ M ρ H _ rs rm q) ⟨fun ρ' H' zz1=>?_,fun _ _ z=>z,fun _ _ z=>z,fun _ _ z=>z⟩;obtain⟨k,σ',M',rs',rm',q'⟩:=zz1;exact fN (h' σ' M' ρ' H' D rs' rm' q') (tM k)
def wRet(t:WE):WS:=fun D σ M=>t σ M D.rt
theorem JP{t:WE}(h:PEd X e t):PSd X (.Return (some e) pos) (wRet t):=fun σ M ρ H D rs rm q=>fM (KP (pe_W e)) (h σ M ρ H _ rs rm q)
theorem Ho:PSd X (.Pass pos) uw:=fun σ M ρ H D rs rm q=>fM IX ⟨Kp.refl H,σ,M,rs,rm,q⟩
theorem FV:PSd X st (fun _ _ _=>False):=fun _ _ _ _ _ _ _ q=>False.elim q
def eG:Expr->Bool
 |.ListComp _ _ _ _=>false
 |.SetComp _ _ _ _=>false
 |.DictComp _ _ _ _ _=>false
 |_=>true
theorem ux{t:Option Expr}{n:Nat}{env:Env}(h:eG e=true):swapsWith e t n env=pure false:=by
 cases e<;>first | rfl | (exact absurd (show false=true from h) Bool.false_ne_true)
def Ep(t:WE):WS:=fun D σ M=>t σ M fun _ M1=>D.nx σ M1
theorem Hq{t:WE}(h:PEd X e t)(hc:eG e=true):PSd X (.Expr e pos) (Ep t):=by
 intro σ M ρ H D rs rm q;refine fM (IY (pe_W e) (ux hc)) ?_;show tW X e ρ H _;refine aK (h σ M ρ H _ rs rm q) fun v H1 zz2=>?_
 obtain⟨k1,x,M1,r1,m1,q1⟩:=zz2;exact⟨k1,σ,M1,rs.mono k1,m1,q1⟩
def wSet(i:Nat)(t:WE):WS:=fun D σ M=>t σ M fun x M1=>D.nx (σ.set i (some x)) M1
theorem JQ{t:WE}{i:Nat}{x:Str}{pos':Pos}(hN:X.N.Nodup)(hi:X.N[i]?=some x)(hx:Loc X.env.scope x)(hf:X.fn x=true\/X.env.scope.names.lookup x=some .local)(hc:eG e=true)(h:PEd X e t):
  PSd X (.Assign [.Name x pos'] e pos) (wSet i t):=by
 intro σ M ρ H D rs rm q;refine fM (KS hN hi hx (pe_W e) (ux hc) hf) ?_;show tW X e ρ H _;refine aK (h σ M ρ H _ rs rm q) fun v H1 zz3=>?_
 obtain⟨k1,d,M1,r1,m1,q1⟩:=zz3;exact⟨k1,σ.set i (some d),M1,(rs.mono k1).set i r1,m1,q1⟩
def wIfS(c:WT)(t u:WS):WS:=fun D σ M=>c σ M fun b M1=>Bif b (t D σ M1) (u D σ M1)
theorem Lv{c:Expr}{a b:List Stmt}{tc:WT}{t u:WS}(hc:PTd X c tc)(ha:PSsd X a t)(hb:PSsd X b u):PSd X (.If c a b pos) (wIfS tc t u):=by
 intro σ M ρ H D rs rm q;refine fM (Ml (pt_W c) (ow a) (ow b)) ?_;show tWT X c ρ H _;refine iD (hc σ M ρ H _ rs rm q) fun k H1 zz4=>?_
 obtain⟨k1,M1,m1,q1⟩:=zz4;cases k with
 |true=>exact fN (ha σ M1 ρ H1 D (rs.mono k1) m1 q1) (tM k1)
 |false=>exact fN (hb σ M1 ρ H1 D (rs.mono k1) m1 q1) (tM k1)
inductive Tgt where
 |nm (i:Nat) | tp (is:List Nat)
def gsOf:List Nat->TGs
 |[]=>gNil
 |i::is=>Iz (zn i) (gsOf is)
def gOf(K:PySem.W.Frag):Tgt->TG
 |.nm i=>zn i
 |.tp is=>gTup K is.length (gsOf is)
def setM:List Nat->List D->DS->DS
 |i::is,d::ds,σ=>setM is ds (σ.set i (some d))
 |_,_,σ=>σ
def uz:Tgt->D->DS->(DS->Prop)->Prop
 |.nm i,d,σ,Q=>Q (σ.set i (some d))
 |.tp is,.tup ds,σ,Q=>ds.length=is.length/\Q (setM is ds σ)
 |.tp _,_,_,_=>False
theorem DA{K:PySem.W.Frag}:∀(is:List Nat) (ds:List D) (vs:List V) (σ:DS) (ρ:L2.St) (H:Hp) (Q:L2.St->Hp->Prop),RVs K H ds vs->RS K H σ ρ->ds.length=is.length ->
  (∀ρ',RS K H (setM is ds σ) ρ'->Q ρ' H)->gsOf is vs ρ H Q
 |[],[],vs,σ,ρ,H,Q,r,rs,_,q=>by rw[RVs] at r;subst r;exact⟨rfl,q ρ rs⟩
 |i::is,d::ds,vs,σ,ρ,H,Q,r,rs,l,q=>by
  rw[RVs] at r;obtain⟨v,vs',rfl,rv,rr⟩:=r;exact⟨v,vs',rfl,DA is ds vs' (σ.set i (some d)) (ρ.set i (some v)) H Q rr (rs.set i rv) (by simpa using l) q⟩
theorem zP{K:PySem.W.Frag}{t:Tgt}{d:D}{v:V}{σ:DS}{ρ:L2.St}{H:Hp}{Q:L2.St->Hp->Prop}{Q':DS->Prop}(r:RV K H d v)(rs:RS K H σ ρ)(h:uz t d σ Q')(f:∀ρ' σ',RS K H σ' ρ'->Q' σ'->Q ρ' H):gOf K t v ρ H Q:=by
 cases t with
 |nm i=>exact f _ _ (rs.set i r) h
 |tp is=>
  cases d with
  |tup ds=>
   obtain⟨a,xs,rfl,s,rr⟩:=RV.tup_.1 r;exact⟨a,xs,rfl,s,by rw[←rr.len];exact h.1,DA is ds xs σ ρ H Q rr rs h.1 fun ρ' rs'=>f ρ' _ rs' h.2⟩
  |_=>exact False.elim h
def PGd(X:Cx)(tg:Expr)(t:Tgt):Prop:=PG X tg (gOf X.K t)
def wAsg(t:WE)(g:Tgt):WS:=fun D σ M=>t σ M fun x M1=>uz g x σ fun σ'=>D.nx σ' M1
theorem JR{tg:Expr}{t:WE}{g:Tgt}(h:PEd X e t)(hg:PGd X tg g)(hs:swapsWithSole [tg] e pos.line X.env=pure false)(hw:swappedStores [tg] e X.env=pure none)(h1:(assignEach [tg] X.env).map (·.2)=[assign tg X.env]):PSd X (.Assign [tg] e pos) (wAsg t g):=by
 intro σ M ρ H D rs rm q;refine fM (Fq (pe_W e) hg hs hw h1) ?_;show tW X e ρ H _;refine aK (h σ M ρ H _ rs rm q) fun v H1 zz5=>?_
 obtain⟨k1,x,M1,r1,m1,q1⟩:=zz5;exact zP r1 (rs.mono k1) q1 fun ρ' σ' rs' q'=>⟨k1,σ',M1,rs',m1,q'⟩
abbrev WI:=DS->MH->(List D->(MH->Prop)->MH->Prop)->Prop
def JOk(K:PySem.W.Frag)(J:It)(H0:Hp)(xs:List D)(g:MH->Prop):Prop:=∀i H M,Kp H0 H->RM K M H->g M->(i<xs.length->J.go i H)/\(i=xs.length->J.stop i H)/\∀x H' d,xs[i]?=some d->J.yld i H x H'->Kp H H'/\RM K M H'/\RV K H' d x
def iW(X:Cx)(tg iter:Expr):TI:=fun ρ H R=>∀pins s,Inv X pins ρ H s->wpAny (model X.prog X.w) X.A (eval iter X.env) (fun v s1=>wpAny (model X.prog X.w) X.A (pyIter v) (PIE X pins ρ tg R) X.xe s1) X.xe s
theorem pi_W(tg iter:Expr):PI X tg iter (iW X tg iter):=fun pins s _ _ _ I h=>h pins s I
theorem MK{tg iter:Expr}{t:TI}{R:It->Hp->Prop}(h:PI X tg iter t)(q:t ρ H R):iW X tg iter ρ H R:=fun pins s I=>h pins s ρ H R I q
theorem wX{tg iter:Expr}{R R':It->Hp->Prop}(h:iW X tg iter ρ H R)(f:∀J H',R J H'->R' J H'):iW X tg iter ρ H R':=fun pins s I=>thn (h pins s I) fun _ _ q=>thn q fun _ _ ⟨it,fp,tn,J,H',e,I',T,st,fk,r⟩=>⟨it,fp,tn,J,H',e,I',T,st,fk,f J H' r⟩
def IEnd(K:PySem.W.Frag)(H:Hp)(R:List D->(MH->Prop)->MH->Prop):It->Hp->Prop:=fun J H'=>Kp H H'/\∃xs g M',RM K M' H'/\g M'/\JOk K J H' xs g/\xs.length<=sizeLine/\R xs g M'
def PId(X:Cx)(tg iter:Expr)(t:WI):Prop:=∀σ M ρ H R,RS X.K H σ ρ->RM X.K M H->t σ M R->iW X tg iter ρ H (IEnd X.K H R)
def kD:Key->D
 |.inl i=>.int i
 |.inr x=>.str x
def keysOf(kvs:List (Key×D)):List D:=kvs.map fun kv=>kD kv.1
theorem IG{K:PySem.W.Frag}{H:Hp}(k:Key):RV K H (kD k) (kV k):=by
 cases k with
 |inl i=>exact RV.int_.2 rfl
 |inr x=>exact RV.str_.2 rfl
theorem zQ{K:PySem.W.Frag}{a:Addr}{u:Obj}{kvs:List (Key×D)}{kws:List (Key×V)}{H0:Hp}(e:H0 a=some (.frz u (.dK kws)))(hk:kws.map (·.1)=kvs.map (·.1))(g:MH->Prop):JOk K (Itd a u kws) H0 (keysOf kvs) g:=by
 intro i H M k rm _;have hl:kws.length=kvs.length:=by have:=congrArg List.length hk;simpa using this
 have e':=k.2 a _ _ e;have hn:(keysOf kvs).length=kvs.length:=by unfold keysOf;rw[List.length_map]
 rw[hn];refine⟨fun hi=>⟨e',by omega⟩,fun hi=>⟨e',by omega⟩,fun x H' d hd zz6=>?_⟩;obtain⟨e1,kv,h1,h2⟩:=zz6;subst e1 h2;unfold keysOf at hd;rw[List.getElem?_map] at hd;have h3:(kvs[i]?).map (·.1)=some kv.1:=by
  have:=congrArg (fun l=>l[i]?) hk
  simp only[List.getElem?_map,h1] at this;rw[←this];rfl
 cases q:kvs[i]? with
 |none=>rw[q] at h3;cases h3
 |some p=>
  rw[q] at h3 hd;cases hd;have h3:p.1=kv.1:=by simpa using h3
  refine⟨Kp.refl _,rm,?_⟩;show RV K _ (kD p.1) _;rw[h3];exact IG _
def seqD(x:D)(M:MH)(R:List D->(MH->Prop)->MH->Prop):Prop:=match x with
 |.tup ds=>R ds (fun _=>True) M
 |.ref a=>match M a with
  |some (.lst ds)=>R ds (fun M'=>M' a=some (.lst ds)) M
  |some (.rol ds)=>R ds (fun M'=>M' a=some (.rol ds)) M
  |some (.dic kvs)=>R (keysOf kvs) (fun M'=>M' a=some (.rod kvs)) (updM M a (.rod kvs))
  |some (.rod kvs)=>R (keysOf kvs) (fun M'=>M' a=some (.rod kvs)) M
  |_=>False
 |.str z=>z.cps.size<=sizeLine/\R (z.cps.toList.map fun c=>.str ⟨#[c]⟩) (fun _=>True) M
 |_=>False
theorem zR{K:PySem.W.Frag}{a:Addr}{ds:List D}{H0:Hp}{g:MH->Prop}(hg:∀H M,RM K M H->g M->∃vs,SqL K H a vs/\RVs K H ds vs):JOk K (Itl K a) H0 ds g:=by
 intro i H M _ rm q;obtain⟨vs,sq,rr⟩:=hg H M rm q;refine⟨fun hi=>?_,fun hi=>⟨vs,sq,by rw[←rr.len];exact Nat.le_of_eq hi.symm⟩,fun x H' d hd ⟨e,y⟩=>?_⟩
 ·have:i<vs.length:=by rw[←rr.len];exact hi
  exact⟨vs,vs[i],sq,List.getElem?_eq_getElem this⟩
 ·subst e
  obtain⟨v,hv,r⟩:=d5 rr.p hd
  have:=y vs sq
  rw[hv] at this;cases this;exact⟨Kp.refl _,rm,r⟩
theorem JS{K:PySem.W.Frag}{a:Addr}{ds:List D}{vs:List V}{H0:Hp}(sq:SqT K H0 a vs)(rr:RVs K H0 ds vs):JOk K (Itt K a) H0 ds (fun _=>True):=by
 intro i H M k rm _;have sq:=k.sq sq;have rr:=RVs.mono k _ rr;refine⟨fun hi=>?_,fun hi=>⟨vs,sq,by rw[←rr.len];exact Nat.le_of_eq hi.symm⟩,fun x H' d hd ⟨e,y⟩=>?_⟩
 ·have:i<vs.length:=by rw[←rr.len];exact hi
  exact⟨vs,vs[i],sq,List.getElem?_eq_getElem this⟩
 ·subst e
  obtain⟨v,hv,r⟩:=d5 rr.p hd
  have:=y vs sq
  rw[hv] at this;cases this;exact⟨Kp.refl _,rm,r⟩
theorem JT{K:PySem.W.Frag}{z:Str}{H0:Hp}:JOk K (Its z) H0 (z.cps.toList.map fun c=>.str ⟨#[c]⟩) (fun _=>True):=by
 intro i H M k rm _;rw[List.length_map];refine⟨fun hi=>?_,fun hi=>?_,fun x H' d hd ⟨e,c,hc,y⟩=>?_⟩
 ·show i<z.cps.size
  simpa using hi
 ·show i=z.cps.size
  simpa using hi
 ·subst e y
  rw[List.getElem?_map] at hd;have:z.cps.toList[i]?=some c:=by simpa using hc
  rw[this] at hd;cases hd;exact⟨Kp.refl _,rm,RV.str_.2 rfl⟩
def Er(t:WE):WI:=fun σ M R=>t σ M fun x M1=>seqD x M1 R
theorem DB{pins:List (Addr×Obj)}{s:Shared}{tg:Expr}{a:Addr}{xs:List V}{R:It->Hp->Prop}(I:Inv X pins ρ H s)(hq:SqL X.K H a xs)(q:R (Itl X.K a) H):wpAny (model X.prog X.w) X.A (pyIter (.ref a)) (PIE X pins ρ tg R) X.xe s:=by
 obtain⟨its,rv,p,hz⟩:=I.list hq;refine wpAny_pyIter_list p.isList ?_;refine⟨s.heap.objs.size,[s.heap.objs.size],_,_,H,rfl,I.kept (t':=s.toks) fun b o e=>Heap.get?_push_of_some _ e,Fr a _,⟨_,Heap.get?_push_size _ rfl,rfl,rfl⟩,fun b hb=>?_,q⟩;have e:b=s.heap.objs.size:=by simpa using hb
 subst e;exact I.fpOk (Nat.le_refl _) (I.hok.fresh (Nat.le_refl _))
theorem Lw{pins:List (Addr×Obj)}{s:Shared}{tg:Expr}{a:Addr}{xs:List V}{R:It->Hp->Prop}(I:Inv X pins ρ H s)(hq:SqT X.K H a xs)(q:R (Itt X.K a) H):wpAny (model X.prog X.w) X.A (pyIter (.ref a)) (PIE X pins ρ tg R) X.xe s:=by
 obtain⟨its,rv,p,hz⟩:=I.tuple hq;refine wpAny_pyIter_tuple (show s.heap.IsTuple a its.toArray from p) ?_;refine⟨s.heap.objs.size,[s.heap.objs.size],_,_,H,rfl,I.kept (t':=s.toks) fun b o e=>Heap.get?_push_of_some _ e,D1 a _,⟨_,Heap.get?_push_size _ rfl,rfl,rfl⟩,fun b hb=>?_,q⟩;have e:b=s.heap.objs.size:=by simpa using hb
 subst e;exact I.fpOk (Nat.le_refl _) (I.hok.fresh (Nat.le_refl _))
theorem Lx{pins:List (Addr×Obj)}{s:Shared}{tg:Expr}{z:Str}{t:Tok}{R:It->Hp->Prop}(I:Inv X pins ρ H s)(q:R (Its z) H):wpAny (model X.prog X.w) X.A (pyIter (.str z t)) (PIE X pins ρ tg R) X.xe s:=by
 have fp:∀b∈[s.heap.objs.size],FpOk X pins H b:=fun b hb=>by
  have e:b=s.heap.objs.size:=by simpa using hb
  subst e;exact I.fpOk (Nat.le_refl _) (I.hok.fresh (Nat.le_refl _))
 cases ha:z.cps.all (· < 128)
 ·refine wpAny_pyIter_wide ha ?_
  exact⟨s.heap.objs.size,[s.heap.objs.size],_,_,H,rfl,I.kept (t':=s.toks) fun b o e=>Heap.get?_push_of_some _ e,FK _ z t,⟨_,Heap.get?_push_size _ rfl,rfl,rfl⟩,fp,q⟩
 ·refine wpAny_pyIter_ascii ha ?_
  exact⟨s.heap.objs.size,[s.heap.objs.size],_,_,H,rfl,I.kept (t':=s.toks) fun b o e=>Heap.get?_push_of_some _ e,FJ _ z t,⟨_,Heap.get?_push_size _ rfl,rfl,rfl⟩,fp,q⟩
theorem JU{l tg:Expr}{t:WE}(h:PEd X l t):PId X tg l (Er t):=by
 intro σ M ρ H R rs rm q pins s I;refine thn (h σ M ρ H _ rs rm q pins s I) fun u s1 zz7=>?_
 obtain⟨v,H1,I1,r1,⟨k1,d,M1,rd,m1,q1⟩⟩:=zz7;cases d with
 |tup ds=>
  obtain⟨a,xs,rfl,sq,rr⟩:=RV.tup_.1 rd;cases r1;obtain⟨_,_,_,hz⟩:=I1.tuple sq;exact Lw I1 sq ⟨k1,ds,_,M1,m1,trivial,JS sq rr,by rw[rr.len];exact hz,q1⟩
 |ref a=>
  cases RV.ref_.1 rd;cases r1;have q1:match M1 a with
   |some (.lst ds)=>R ds (fun M'=>M' a=some (.lst ds)) M1
   |some (.rol ds)=>R ds (fun M'=>M' a=some (.rol ds)) M1
   |some (.dic kvs)=>R (keysOf kvs) (fun M'=>M' a=some (.rod kvs)) (updM M1 a (.rod kvs))
   |some (.rod kvs)=>R (keysOf kvs) (fun M'=>M' a=some (.rod kvs)) M1
   |_=>False:=q1
  split at q1
  ·rename_i ds e
   obtain⟨xs,e1,rr⟩:=m1 a _ e;obtain⟨_,_,_,hz⟩:=I1.list (SqL.of e1);refine DB I1 (SqL.of e1) ⟨k1,ds,_,M1,m1,e,zR fun H' M' rm' g'=>?_,by rw[rr.len];exact hz,q1⟩;obtain⟨xs',e',rr'⟩:=rm' a _ g';exact⟨xs',SqL.of e',rr'⟩
  ·rename_i ds e
   obtain⟨xs,e1,rr⟩:=m1 a _ e;have e1:SqL X.K H1 a xs:=.inl e1;obtain⟨_,_,_,hz⟩:=I1.list e1;refine DB I1 e1 ⟨k1,ds,_,M1,m1,e,zR fun H' M' rm' g'=>?_,by rw[rr.len];exact hz,q1⟩;obtain⟨xs',e',rr'⟩:=rm' a _ g';exact⟨xs',.inl e',rr'⟩
  ·rename_i kvs e
   obtain⟨kws,e1,ek,rr⟩:=m1 a _ e;obtain⟨u,I2⟩:=freeze I1 e1;have k2:=Kp.put (o':=.frz u (.dK kws)) e1 trivial;have m2:=m1.put (m:=.rod kvs) e1 trivial (o':=.frz u (.dK kws)) ⟨u,kws,aC,ek,RVs.mono k2 _ rr⟩;refine Dy I2 aC ⟨k1.trans k2,keysOf kvs,_,_,m2,ab,zQ aC ek _,?_,q1⟩;obtain⟨_,hz,_⟩:=nr I2 aC;have hl:kws.length=kvs.length:=by have:=congrArg List.length ek;simpa using this
   unfold keysOf;rw[List.length_map];omega
  ·rename_i kvs e
   obtain⟨u,kws,e1,ek,rr⟩:=m1 a _ e;refine Dy I1 e1 ⟨k1,keysOf kvs,_,M1,m1,e,zQ e1 ek _,?_,q1⟩;obtain⟨_,hz,_⟩:=nr I1 e1;have hl:kws.length=kvs.length:=by have:=congrArg List.length ek;simpa using this
   unfold keysOf;rw[List.length_map];omega
  ·exact False.elim q1
 |str z=>
  cases RV.str_.1 rd;obtain⟨t,rfl⟩:=r1;exact Lx I1 ⟨k1,_,_,M1,m1,trivial,JT,by rw[List.length_map];simpa using q1.1,q1.2⟩
 |_=>exact False.elim q1
def bo(a b:Int):List D:=(List.range (b-a).toNat).map fun(i:Nat)=>.int (a+(i:Int))
theorem FW{K:PySem.W.Frag}{a b:Int}{H0:Hp}:JOk K (Itr a (b-a).toNat) H0 (bo a b) (fun _=>True):=by
 intro i H M k rm _;have hl:(bo a b).length=(b-a).toNat:=by unfold bo;rw[List.length_map,List.length_range]
 rw[hl];refine⟨fun hi=>hi,fun hi=>Nat.le_of_eq hi.symm,fun x H' d hd zz8=>?_⟩;obtain⟨e,y⟩:=zz8;subst e y;have hi:i<(b-a).toNat:=by have:=(List.getElem?_eq_some_iff.mp hd).1;rw[hl] at this;exact this
 unfold bo at hd;rw[List.getElem?_map,List.getElem?_range hi] at hd;cases hd;exact⟨Kp.refl _,rm,RV.int_.2 rfl⟩
def Et(t:WA):WI:=fun σ M R=>t σ M fun ds M1=>match ds with
 |[.int j]=>(-1000000<=j/\j<=1000000)/\R (bo 0 j) (fun _=>True) M1
 |_=>False
theorem FX{a b:Int}(h1:-1000000<=a)(h2:b<=1000000):(bo a b).length<=sizeLine:=by
 unfold bo;rw[List.length_map,List.length_range,sizeLine_eq];omega
theorem Eu{a tg:Expr}{t:WA}{p:Pos}(hg:Gl X "range")(hm:X.mg "range" = none)(ha:PAd X [a] t)(hs:aw a=true):PId X tg (.Call (.Name "range" p) [a] [] pos) (Et t):=by
 intro σ M ρ H R rs rm q;refine MK (Fs hg hm (pa_W [a]) (by rw[bh hs];rfl)) ?_;show tWA X [a] ρ H _;refine dO (ha σ M ρ H _ rs rm q) fun vs H1 zz9=>?_
 obtain⟨k1,ds,M1,r1,l1,m1,q1⟩:=zz9;try dsimp only at q1
 split at q1
 ·rename_i j
  have r1:=r1.p;cases r1 with
  |cons r rr=>
   cases rr;cases RV.int_.1 r;refine⟨j,rfl,by omega,by omega,k1,_,_,M1,m1,trivial,?_,FX (by omega) q1.1.2,q1.2⟩
   have:=@FW X.K 0 j H1
   rw[Int.sub_zero] at this;exact this
 ·exact False.elim q1
def l0:Expr->Bool
 |.Set _ _ _=>false
 |_=>true
theorem Ev{env:Env}(h:l0 e=true):∀x,foldedSetIterable e env x=pure x:=by
 intro x;cases e<;>first | rfl | (exact absurd (show false=true from h) Bool.false_ne_true)
def az(g:MH->Prop)(t:Tgt)(tb:WS)(E:EndsD):List D->DS->MH->Prop
 |[],σ,M=>E.nx σ M
 |x::xs,σ,M=>uz t x σ fun σ'=>tb { E with nx:=fun σ2 M2=>g M2/\az g t tb E xs σ2 M2,ct:=fun σ2 M2=>g M2/\az g t tb E xs σ2 M2,bk:=E.nx } σ' M
def wFor(t:WI)(g:Tgt)(tb:WS):WS:=fun E σ M=>t σ M fun xs gd M1=>az gd g tb E xs σ M1
theorem JV{tg iter:Expr}{body:List Stmt}{t:WI}{g:Tgt}{tb:WS}(hp:PassesOwn (model X.prog X.w) X.A X.env X.xe)(hc:X.calm=true)(hi:PId X tg iter t)(hg:PGd X tg g)(hb:PSsd X body tb)(hs:l0 iter=true):
  PSd X (.For tg iter body [] pos) (wFor t g tb):=by
 intro σ M ρ H E rs rm q;refine fM (KW hp hc (pi_W tg iter) hg (ow body) (Ev hs)) ?_;show iW X tg iter ρ H _;refine wX (hi σ M ρ H _ rs rm q) fun J H1 zz11=>?_
 obtain⟨k1,xs,gd,M1,m1,g1,jok,hz,q1⟩:=zz11;refine⟨fun i m ρ' H'=>m=xs.length-i/\i<=xs.length/\Kp H1 H'/\∃σ' M',RS X.K H' σ' ρ'/\RM X.K M' H'/\gd M'/\az gd g tb E (xs.drop i) σ' M',⟨xs.length,by simp,Nat.zero_le _,Kp.refl _,σ,M1,rs.mono k1,m1,g1,q1⟩,?_⟩;rintro i m ρ' H' ⟨rfl,hi',k',σ',M',rs',rm',g',l'⟩;obtain⟨j1,j2,j3⟩:=jok i H' M' k' rm' g';by_cases hlt:i<xs.length
 ·rw[List.drop_eq_getElem_cons hlt] at l'
  refine .inr ⟨j1 hlt,fun ρ2 H2=>Kp H1 H2/\∃σ2 M2,RS X.K H2 σ2 ρ2/\RM X.K M2 H2/\gd M2/\az gd g tb E (xs.drop (i+1)) σ2 M2,fun ρ2 H2 ⟨k2,r⟩=>⟨xs.length-(i+1),by omega,rfl,hlt,k2,r⟩,fun x H2 y=>?_⟩;obtain⟨k2,m2,r2⟩:=j3 x H2 xs[i] (List.getElem?_eq_getElem hlt) y;refine zP r2 (rs'.mono k2) l' fun ρ3 σ3 rs3 q3=>?_
  refine fN (hb σ3 M' ρ3 H2 _ rs3 m2 q3) ⟨fun ρ4 H4 zz12=>?_,fun _ _=>bN ((k1.trans k').trans k2),fun _ _=>lZ ((k1.trans k').trans k2),fun ρ4 H4 ⟨k4,σ4,M4,a,b,c⟩=>⟨k'.trans (k2.trans k4),σ4,M4,a,b,c.1,c.2⟩⟩;obtain⟨k4,σ4,M4,a,b,c⟩:=zz12;exact⟨k'.trans (k2.trans k4),σ4,M4,a,b,c.1,c.2⟩
 ·have e:i=xs.length:=by omega
  subst e;rw[List.drop_length] at l';exact .inl ⟨j2 rfl,k1.trans k',σ',M',rs',rm',l'⟩
def aQ(g:MH->Prop)(t:Tgt)(c:WT)(e:WE)(F:List D->MH->Prop):List D->List D->DS->MH->Prop
 |[],acc,_,M=>F acc M
 |x::xs,acc,σ,M=>uz t x σ fun σ'=>c σ' M fun b M1=>Bif b (e σ' M1 fun y M2=>g M2/\aQ g t c e F xs (acc++[y]) σ' M2) (g M1/\aQ g t c e F xs acc σ' M1)
def Ew(n:Nat)(t:WI)(g:Tgt)(c:WT)(e:WE):WE:=fun σ M Q=>t σ M fun xs gd M1=>aQ gd g c e (fun ds M'=>∀p,M' p=none->Q (.ref p) (updM M' p (.lst ds))) xs [] (σ++List.replicate n none) M1
def PTsd(X:Cx)(ifs:List Expr)(t:WT):Prop:=(ifs=[]/\t=fun _ M Q=>Q true M) \/ ∃c,ifs=[c]/\PTd X c t
theorem zS{K:PySem.W.Frag}{J:It}{H1:Hp}{xs:List D}{gd:MH->Prop}{g:Tgt}{c:WT}{e:WE}{tc:TT}{te:TE}{F:List D->MH->Prop}{Fin:List V->Hp->Prop}{σ:DS}{M1:MH}{ρ:L2.St}
  (jok:JOk K J H1 xs gd) (hz:xs.length<=sizeLine) (rs:RS K H1 σ ρ) (m1:RM K M1 H1) (g1:gd M1)
  (hc:∀σ M ρ H Q (Q':Bool->Hp->Prop),RS K H σ ρ->RM K M H->c σ M Q->(∀b H',Kp H H'->∀M',RM K M' H'->Q b M'->Q' b H')->tc ρ H Q')
  (he:∀σ M ρ H Q (Q':VK),RS K H σ ρ->RM K M H->e σ M Q->(∀v H',Kp H H'->∀d M',RV K H' d v->RM K M' H'->Q d M'->Q' v H')->te ρ H Q')
  (hF:∀ds vs H' M',Kp H1 H'->RM K M' H'->RVs K H' ds vs->F ds M'->Fin vs H') (q:aQ gd g c e F xs [] σ M1):zq J (gOf K g) tc te Fin ρ H1:=by
 refine⟨fun i m ys ρ' H'=>m=xs.length-i/\i<=xs.length/\Kp H1 H'/\∃σ' M' ds,RS K H' σ' ρ'/\RM K M' H'/\gd M'/\RVs K H' ds ys/\ds.length<=i/\aQ gd g c e F (xs.drop i) ds σ' M',⟨xs.length,by simp,Nat.zero_le _,Kp.refl _,σ,M1,[],rs,m1,g1,RVs.nil,Nat.le_refl _,q⟩,?_⟩;rintro i m ys ρ' H' ⟨rfl,hi',k',σ',M',ds,rs',rm',g',rd,hd,l'⟩;obtain⟨j1,j2,j3⟩:=jok i H' M' k' rm' g';by_cases hlt:i<xs.length
 ·rw[List.drop_eq_getElem_cons hlt] at l'
  refine .inr ⟨j1 hlt,by rw[←rd.len];omega,fun zs ρ2 H2=>Kp H1 H2/\∃σ2 M2 ds2,RS K H2 σ2 ρ2/\RM K M2 H2/\gd M2/\RVs K H2 ds2 zs/\ds2.length<=i+1/\aQ gd g c e F (xs.drop (i+1)) ds2 σ2 M2,fun zs ρ2 H2 ⟨k2,r⟩=>⟨xs.length-(i+1),by omega,rfl,hlt,k2,r⟩,fun x H2 y=>?_⟩;obtain⟨k2,m2,r2⟩:=j3 x H2 xs[i] (List.getElem?_eq_getElem hlt) y;refine zP r2 (rs'.mono k2) l' fun ρ3 σ3 rs3 q3=>?_
  refine hc σ3 M' ρ3 H2 _ _ rs3 m2 q3 fun b H4 k4 M4 m4 q4=>?_
  cases b with
  |true=>
   refine he σ3 M4 ρ3 H4 _ _ (rs3.mono k4) m4 q4 fun v H5 k5 d M5 rv m5 q5=>?_
   have kk:=k2.trans (k4.trans k5);exact⟨k'.trans kk,σ3,M5,ds++[d],rs3.mono (k4.trans k5),m5,q5.1,RVs.of (bd (RVs.mono kk _ rd).p (.cons rv .nil)),by simp;omega,q5.2⟩
  |false=>exact⟨k'.trans (k2.trans k4),σ3,M4,ds,rs3.mono k4,m4,q4.1,RVs.mono (k2.trans k4) _ rd,by omega,q4.2⟩
 ·have e:i=xs.length:=by omega
  subst e;rw[List.drop_length] at l';exact .inl ⟨j2 rfl,hF ds ys H' M' k' rm' rd l'⟩
section
variable {elt tg iter : Expr} {ifs : List Expr} {scope osc : Scope} {own N2 : List Str}
def bT(X:Cx)(scope:Scope)(own N2:List Str)(ifs:List Expr):TT:=fun ρ H Q=>∀C s H0 ex pn pins s',Inv (cxC X scope own N2 C s H0 ex pn) pins ρ H s' ->
 wpAny (model X.prog X.w) X.A (forIn ifs true fun c r=>if r=true then do let ok ←isTrue c (cxC X scope own N2 C s H0 ex pn).env (eval c (cxC X scope own N2 C s H0 ex pn).env);pure (ForInStep.yield ok) else pure (ForInStep.yield r)) (TP (cxC X scope own N2 C s H0 ex pn) pins ρ Q) (cxC X scope own N2 C s H0 ex pn).xe s'
def bE(X:Cx)(scope:Scope)(own N2:List Str)(e:Expr):TE:=fun ρ H Q=>∀C s H0 ex pn,tW (cxC X scope own N2 C s H0 ex pn) e ρ H Q
theorem sH{c:WT}{te:WE}(hc:∀C s H0 ex pn,PTsd (cxC X scope own N2 C s H0 ex pn) ifs c)(he:∀C s H0 ex pn,PEd (cxC X scope own N2 C s H0 ex pn) elt te):
  (∀σ M ρ H Q (Q':Bool->Hp->Prop),RS X.K H σ ρ->RM X.K M H->c σ M Q->(∀b H',Kp H H'->∀M',RM X.K M' H'->Q b M'->Q' b H')->bT X scope own N2 ifs ρ H Q') /\
  (∀σ M ρ H Q (Q':VK),RS X.K H σ ρ->RM X.K M H->te σ M Q->(∀v H',Kp H H'->∀d M',RV X.K H' d v->RM X.K M' H'->Q d M'->Q' v H')->bE X scope own N2 elt ρ H Q'):=by
 refine⟨fun σ M ρ H Q Q' rs rm q f C s H0 ex pn pins s' I=>?_,fun σ M ρ H Q Q' rs rm q f C s H0 ex pn=>?_⟩
 ·rcases hc C s H0 ex pn with⟨e1,e2⟩ | ⟨c',e1,h⟩
  ·subst e1 e2
   exact Ju (X:=cxC X scope own N2 C s H0 ex pn) pins s' ρ H _ I (f true H (Kp.refl H) M rm q)
  ·subst e1
   refine Jv (X:=cxC X scope own N2 C s H0 ex pn) (pt_W c') pins s' ρ H _ I ?_;refine iD (h σ M ρ H Q rs rm q) fun b H' zz13=>?_
   obtain⟨k,M',m',q'⟩:=zz13;exact f b H' k M' m' q'
 ·refine aK (he C s H0 ex pn σ M ρ H Q rs rm q) fun v H' zz14=>?_
  obtain⟨k,d,M',r,m',q'⟩:=zz14;exact f v H' k d M' r m' q'
theorem Hr{t:WI}{g:Tgt}{c:WT}{te:WE}(cs:CompScope osc scope X.N own N2)(ho:X.env.scope=osc)(hcalm:X.calm=true)(hi:PId X tg iter t)(hg:∀C s H0 ex pn,PG (cxC X scope own N2 C s H0 ex pn) tg (gOf X.K g))
  (hc:∀C s H0 ex pn,PTsd (cxC X scope own N2 C s H0 ex pn) ifs c) (he:∀C s H0 ex pn,PEd (cxC X scope own N2 C s H0 ex pn) elt te) (hs:l0 iter=true):PEd X (.ListComp elt [⟨tg,iter,ifs,0⟩] scope pos) (Ew own.length t g c te):=by
 intro σ M ρ H Q rs rm q;obtain⟨b1,b2⟩:=sH hc he;refine bz (Jw (te:=bE X scope own N2 elt) (tc:=bT X scope own N2 ifs) cs hcalm (pi_W tg iter) hg (fun C s H0 ex pn pins s' σ' H' Q' I h=>h C s H0 ex pn pins s' I) (fun C s H0 ex pn pins s' σ' H' Q' I h=>h C s H0 ex pn pins s' I) ho rfl (Ev hs)) ?_;show iW X tg iter ρ H _;refine wX (hi σ M ρ H _ rs rm q) fun J H1 zz15=>?_
 obtain⟨k1,xs,gd,M1,m1,g1,jok,hz,q1⟩:=zz15;refine zS jok hz ((rs.mono k1).more own.length) m1 g1 b1 b2 ?_ q1;intro ds vs H' M' k' m' rr f p hp;have k2:Kp H' (upd H' p (.lst vs)):=Kp.new hp;exact⟨(k1.trans k').trans k2,.ref p,_,RV.ref_.2 rfl,m'.new (m:=.lst ds) hp ⟨vs,aC,RVs.mono k2 _ rr⟩,f p (m'.fresh hp)⟩
def Ex(i n:Nat)(t:WI)(g:Tgt)(c:WT)(e:WE):WS:=fun E σ M=>t σ M fun xs gd M1=>aQ gd g c e (fun ds M'=>∀p,M' p=none->E.nx (σ.set i (some (.ref p))) (updM M' p (.lst ds))) xs [] (σ++List.replicate n none) M1
theorem Hs{t:WI}{g:Tgt}{c:WT}{te:WE}{i:Nat}{y:Str}{py spos:Pos}(cs:CompScope osc scope X.N own N2)(ho:X.env.scope=osc)(hcalm:X.calm=true)(hnd:X.N.Nodup)(hy:X.N[i]?=some y)(hl:X.env.scope.names.lookup y=some .local)(hi:PId X tg iter t)
  (hg:∀C s H0 ex pn,PG (cxC X scope own N2 C s H0 ex pn) tg (gOf X.K g))
  (hc:∀C s H0 ex pn,PTsd (cxC X scope own N2 C s H0 ex pn) ifs c) (he:∀C s H0 ex pn,PEd (cxC X scope own N2 C s H0 ex pn) elt te) (hs:l0 iter=true)
  (hsw:swapsWith (.ListComp elt [⟨tg,iter,ifs,0⟩] scope pos) (some (.Name y py)) spos.line X.env=pure true):PSd X (.Assign [.Name y py] (.ListComp elt [⟨tg,iter,ifs,0⟩] scope pos) spos) (Ex i own.length t g c te):=by
 intro σ M ρ H E rs rm q;obtain⟨b1,b2⟩:=sH hc he;refine fM (Jx (te:=bE X scope own N2 elt) (tc:=bT X scope own N2 ifs) (i:=i) cs hcalm hnd hy hl (pi_W tg iter) hg (fun C s H0 ex pn pins s' σ' H' Q' I h=>h C s H0 ex pn pins s' I) (fun C s H0 ex pn pins s' σ' H' Q' I h=>h C s H0 ex pn pins s' I) hsw ho rfl (Ev hs)) ?_;show iW X tg iter ρ H _;refine wX (hi σ M ρ H _ rs rm q) fun J H1 zz16=>?_
 obtain⟨k1,xs,gd,M1,m1,g1,jok,hz,q1⟩:=zz16;refine zS jok hz ((rs.mono k1).more own.length) m1 g1 b1 b2 ?_ q1;intro ds vs H' M' k' m' rr f p hp;have k2:Kp H' (upd H' p (.lst vs)):=Kp.new hp;exact⟨(k1.trans k').trans k2,_,_,(rs.mono ((k1.trans k').trans k2)).set i (RV.ref_.2 rfl),m'.new (m:=.lst ds) hp ⟨vs,aC,RVs.mono k2 _ rr⟩,f p (m'.fresh hp)⟩
end
def ag(N:List Str)(ds:List D):DS:=ds.map some++List.replicate (N.length-ds.length) none
theorem zT{K:PySem.W.Frag}{H:Hp}{N:List Str}{ds:List D}{vs:List V}(r:RVs K H ds vs):RS K H (ag N ds) (L2.start N vs):=by
 unfold ag L2.start;rw[r.len];refine bd ?_ (lY (fun d e=>nomatch e) _);have p:=r.p;clear r;induction p with
 |nil=>exact .nil
 |cons r _ ih=>exact .cons (fun d e=>by cases e;exact⟨_,rfl,r⟩) ih
end
section
variable {P : Program} {w : World} {K : PySem.W.Frag} {mg : Str -> Option Value} {base : Heap}
theorem fnD{x:Str}{st:Stmt}{ps N:List Str}{f:Addr}{fd:FuncData}{k:Nat}{sp:SpD}{t:WS}(D0:IsDef K mg x st ps f fd)(S:FnScope N ps (aa st))(len:∀ds M Q,sp ds M Q->ds.length=ps.length)
  (hb:∀cdv A outer s H E,Room k (A.deeper (envOfC x (aa st) s.heap.objs.size f cdv))->PSsd (cxOf CX0 P w K mg base N x (aa st) f cdv A outer s H E).nox (ae st) t)
  (h:∀ds M Q,sp ds M Q->t { nx:=fun _ M'=>Q .non M',rt:=Q } (ag N ds) M):FnD P w K mg base (k+1) x sp:=by
 refine⟨st,ps,f,fd,D0,D0.fn.ok S (fun vs H Q E ⟨ds,M,Q0,r,_,s,_⟩=>by rw[←r.len];exact len ds M Q0 s) fun cdv A outer s H vs Q E hr ⟨ds,M,Q0,r,m,sq,f0⟩=>⟨tWSs _ _,ow _,?_⟩⟩;refine fN (hb cdv A outer s H E hr (ag N ds) M (L2.start N vs) H _ (zT r) m (h ds M Q0 sq)) ⟨fun ρ' H' zz17=>?_,fun v H' ⟨k',d,M',r',m',q⟩=>f0 _ _ _ _ q k' r' m',fun _ _ ⟨_,_,_,_,_,q⟩=>q,fun _ _ ⟨_,_,_,_,_,q⟩=>q⟩;obtain⟨k',σ',M',_,m',q⟩:=zz17;exact f0 _ _ _ _ q k' (RV.non_.2 rfl) m'
end
end DD
namespace DD
open PySem PySem.Spec PyProof.Rows L2
mutual
noncomputable def aP:D->Bool
 |.ref _=>false
 |.ty _=>false
 |.tup ds=>aW ds
 |_=>true
noncomputable def aW:List D->Bool
 |[]=>true
 |d::ds=>aP d&&aW ds
end
mutual
noncomputable def depD:D->Nat
 |.tup ds=>bQ ds+1
 |_=>0
noncomputable def bQ:List D->Nat
 |[]=>0
 |d::ds=>max (depD d) (bQ ds)
end
mutual
noncomputable def eqD:D->D->Bool
 |.non,.non=>true
 |.bl a,.bl b=>a==b
 |.bl a,.int b=>(if a then 1 else 0)==b
 |.int a,.bl b=>a==(if b then 1 else 0)
 |.int a,.int b=>a==b
 |.str a,.str b=>a==b
 |.tup as,.tup bs=>eqDs as bs
 |_,_=>false
noncomputable def eqDs:List D->List D->Bool
 |[],[]=>true
 |a::as,b::bs=>eqD a b&&eqDs as bs
 |_,_=>false
end
mutual
theorem iE:∀d:D,aP d=true->eqD d d=true
 |.non,_=>by rw[eqD]
 |.bl b,_=>by rw[eqD];simp
 |.int b,_=>by rw[eqD];simp
 |.str b,_=>by rw[eqD];simp
 |.ref _,h=>by rw[aP] at h;cases h
 |.ty _,h=>by rw[aP] at h;cases h
 |.tup ds,h=>by rw[aP] at h;rw[eqD];exact qf ds h
theorem qf:∀ds:List D,aW ds=true->eqDs ds ds=true
 |[],_=>by rw[eqDs]
 |d::ds,h=>by
  rw[aW,Bool.and_eq_true] at h;rw[eqDs,iE d h.1,qf ds h.2];rfl
end
theorem l4:∀{as bs:List D},eqDs as bs=((List.range (min as.length bs.length)).all (fun j=>eqD ((as[j]?).getD .non) ((bs[j]?).getD .non))&&as.length==bs.length)
 |[],[]=>by rw[eqDs];rfl
 |[],b::bs=>by rw[eqDs]<;>simp
 |a::as,[]=>by rw[eqDs]<;>simp
 |a::as,b::bs=>by
  rw[eqDs,l4 (as:=as) (bs:=bs)];have e:min (a::as).length (b::bs).length=min as.length bs.length+1:=by simp only[List.length_cons];omega
  rw[e,List.range_succ_eq_map,List.all_cons,List.all_map];simp only[List.getElem?_cons_zero,Option.getD_some,List.length_cons];rw[Bool.and_assoc];congr 1;congr 1;rw[Bool.eq_iff_iff];simp
theorem ck:∀{ds:List D}{i:Nat}{d:D},aW ds=true->ds[i]?=some d->aP d=true
 |d::ds,0,_,h,e=>by rw[aW,Bool.and_eq_true] at h;simp at e;subst e;exact h.1
 |d::ds,i+1,_,h,e=>by rw[aW,Bool.and_eq_true] at h;exact ck (ds:=ds) (i:=i) h.2 (by simpa using e)
theorem kE:∀{ds:List D}{i:Nat}{d:D},ds[i]?=some d->depD d<=bQ ds
 |d::ds,0,_,e=>by rw[bQ];simp at e;subst e;omega
 |d::ds,i+1,_,e=>by rw[bQ];have:=kE (ds:=ds) (i:=i) (by simpa using e);omega
section
variable {X : Cx} {pins : List (Addr × Obj)} {ρ : L2.St} {H : Hp} {s : Shared}
def lD:D->Bool
 |.non=>true
 |.bl _=>true
 |.int _=>true
 |.str _=>true
 |_=>false
def toV:D->V
 |.non=>.non
 |.bl b=>.bl b
 |.int i=>.int i
 |.str x=>.str x
 |_=>.non
theorem rk{K:PySem.W.Frag}{d:D}{v:V}(f:lD d=true)(r:RV K H d v):v=toV d/\Eg v=true:=by
 cases d with
 |non=>cases RV.non_.1 r;exact⟨rfl,rfl⟩
 |bl b=>cases RV.bl_.1 r;exact⟨rfl,rfl⟩
 |int b=>cases RV.int_.1 r;exact⟨rfl,rfl⟩
 |str b=>cases RV.str_.1 r;exact⟨rfl,rfl⟩
 |_=>exact absurd (show false=true from f) Bool.false_ne_true
theorem DC{d e:D}(f:lD d=true)(g:lD e=true):eqD d e=eqV (toV d) (toV e):=by
 cases d<;>cases e<;>first | exact absurd (show false=true from f) Bool.false_ne_true | exact absurd (show false=true from g) Bool.false_ne_true | (rw[eqD]<;>first | rfl | (intros;contradiction) | skip)
mutual
theorem zU(I:Inv X pins ρ H s):∀(d e:D){v:V},aP d=true->aP e=true->RV X.K H d v->RV X.K H e v->d=e:=fun d e v pd pe rd re=>by
 cases d with
 |non=>cases RV.non_.1 rd;cases e with
  |non=>rfl
  |tup ds=>obtain⟨a,xs,z,_⟩:=RV.tup_.1 re;cases z
  |_=>rw[RV] at re;cases re
 |bl b=>cases RV.bl_.1 rd;cases e with
  |bl b'=>cases RV.bl_.1 re;rfl
  |tup ds=>obtain⟨a,xs,z,_⟩:=RV.tup_.1 re;cases z
  |_=>rw[RV] at re;cases re
 |int b=>cases RV.int_.1 rd;cases e with
  |int b'=>cases RV.int_.1 re;rfl
  |tup ds=>obtain⟨a,xs,z,_⟩:=RV.tup_.1 re;cases z
  |_=>rw[RV] at re;cases re
 |str b=>cases RV.str_.1 rd;cases e with
  |str b'=>cases RV.str_.1 re;rfl
  |tup ds=>obtain⟨a,xs,z,_⟩:=RV.tup_.1 re;cases z
  |_=>rw[RV] at re;cases re
 |ref a=>rw[aP] at pd;cases pd
 |ty a=>rw[aP] at pd;cases pd
 |tup ds=>
  obtain⟨a,xs,rfl,sq,rr⟩:=RV.tup_.1 rd;cases e with
  |tup es=>
   obtain⟨a',xs',z,sq',rr'⟩:=RV.tup_.1 re;cases z
   have:=I.tuple_inj sq sq'
   subst this;rw[aP] at pd pe;rw[DE I ds es pd pe rr rr']
  |ref a=>rw[aP] at pe;cases pe
  |_=>rw[RV] at re;cases re
theorem DE(I:Inv X pins ρ H s):∀(ds es:List D){vs:List V},aW ds=true->aW es=true->RVs X.K H ds vs->RVs X.K H es vs->ds=es
 |[],[],_,_,_,_,_=>rfl
 |[],e::es,_,_,_,rd,re=>by have:=rd.len;have:=re.len;simp only[List.length_cons,List.length_nil] at *;omega
 |d::ds,[],_,_,_,rd,re=>by have:=rd.len;have:=re.len;simp only[List.length_cons,List.length_nil] at *;omega
 |d::ds,e::es,_,pd,pe,rd,re=>by
  rw[RVs] at rd re;rw[aW,Bool.and_eq_true] at pd pe;obtain⟨v,vs,rfl,r1,r2⟩:=rd;obtain⟨v',vs',z,r1',r2'⟩:=re;cases z;rw[zU I d e pd.1 pe.1 r1 r1',DE I ds es pd.2 pe.2 r2 r2']
end
theorem wY{A:Around}{ds:List D}{e:D}{v u:V}{v' u':Value}(I:Inv X pins ρ H s)(hu:A.units<cLine)(f:lD e=true)(rd:RV X.K H (.tup ds) v)(re:RV X.K H e u)(r:RelV v v')(r':RelV u u'):
  SeqAt.EqAt A s v' u' false/\SeqAt.EqAt A s u' v' false:=by
 obtain⟨a,xs,rfl,sq,rr⟩:=RV.tup_.1 rd;obtain⟨its,_,tp,_⟩:=I.tuple sq;cases r;have tp:s.heap.IsTuple a its.toArray:=tp;cases e with
 |non=>cases RV.non_.1 re;cases r';exact⟨SeqAt.EqAt.tuple_none tp hu,SeqAt.EqAt.none_tuple tp hu⟩
 |bl b=>cases RV.bl_.1 re;cases r';exact⟨SeqAt.EqAt.tuple_bool b tp hu,SeqAt.EqAt.bool_tuple b tp hu⟩
 |int b=>cases RV.int_.1 re;obtain⟨t,rfl⟩:=r';exact⟨SeqAt.EqAt.tuple_int b t tp hu,SeqAt.EqAt.int_tuple b t tp hu⟩
 |str b=>cases RV.str_.1 re;obtain⟨t,rfl⟩:=r';exact⟨SeqAt.EqAt.tuple_str b t tp hu,SeqAt.EqAt.str_tuple b t tp hu⟩
 |_=>exact absurd (show false=true from f) Bool.false_ne_true
theorem qg{ds:List D}{e:D}(f:lD e=true):eqD (.tup ds) e=false/\eqD e (.tup ds)=false:=by
 cases e<;>first | exact absurd (show false=true from f) Bool.false_ne_true | (constructor<;>(rw[eqD]<;>(intros;contradiction)))
theorem gq{d:D}(h:aP d=true):lD d=true \/ ∃ds,d=.tup ds:=by
 cases d with
 |ref a=>rw[aP] at h;cases h
 |ty a=>rw[aP] at h;cases h
 |tup ds=>exact .inr ⟨ds,rfl⟩
 |_=>exact .inl rfl
theorem units_in1(A:Around):A.in1.units=A.units+1:=rfl
theorem jR{K:PySem.W.Frag}{ds:List D}{vs:List V}{its:List Value}(rr:RVs K H ds vs)(rv:Vals vs its){j:Nat}(h:j<its.toArray.size):
  ∃d v,ds[j]?=some d/\RV K H d v/\RelV v its.toArray[j]:=by
 have h1:j<its.length:=by simpa using h
 have h2:j<vs.length:=by rw[rv.length];exact h1
 have h3:j<ds.length:=by rw[rr.len];exact h2
 obtain⟨v,hv,r⟩:=d5 rr.p (List.getElem?_eq_getElem h3);obtain⟨u,hu,r'⟩:=rv.get hv;have:its.toArray[j]=u:=by
  have:=List.getElem?_eq_getElem h1
  rw[this] at hu;simpa using hu
 exact⟨ds[j],v,List.getElem?_eq_getElem h3,r,by rw[this];exact r'⟩
theorem zV(n:Nat):∀{s:Shared}{A:Around}(d e:D){v u:V}{v' u':Value},Inv X pins ρ H s->depD d<=n->A.units+n<cLine->aP d=true->aP e=true->RV X.K H d v->RV X.K H e u->RelV v v'->RelV u u'->SeqAt.EqAt A s v' u' (eqD d e):=by
 induction n with
 |zero=>
  intro s A d e v u v' u' I hd hu pd pe rd re r r';rcases gq pd with f | ⟨ds,rfl⟩
  ·rcases gq pe with g | ⟨es,rfl⟩
   ·rw[DC f g]
    obtain⟨z1,z2⟩:=rk f rd;obtain⟨z3,z4⟩:=rk g re;rw[←z1,←z3];exact Fz r r' z2 z4
   ·rw[(qg f).2];exact(wY I (by omega) f re rd r' r).2
  ·rw[depD] at hd;omega
 |succ n ih=>
  intro s A d e v u v' u' I hd hu pd pe rd re r r';rcases gq pd with f | ⟨ds,rfl⟩
  ·rcases gq pe with g | ⟨es,rfl⟩
   ·rw[DC f g]
    obtain⟨z1,z2⟩:=rk f rd;obtain⟨z3,z4⟩:=rk g re;rw[←z1,←z3];exact Fz r r' z2 z4
   ·rw[(qg f).2];exact(wY I (by omega) f re rd r' r).2
  ·rcases gq pe with g | ⟨es,rfl⟩
   ·rw[(qg g).1];exact(wY I (by omega) g rd re r r').1
   ·by_cases z:v=u
    ·subst z
     have:=zU I _ _ pd pe rd re
     cases this;rw[iE _ pd];obtain⟨a,xs,rfl,_⟩:=RV.tup_.1 rd;cases r;cases r';exact SeqAt.EqAt.same _
    ·obtain⟨a,xs,rfl,sq,rr⟩:=RV.tup_.1 rd
     obtain⟨b,ys,rfl,sq',rr'⟩:=RV.tup_.1 re;cases r;cases r';have hab:a≠b:=fun q=>z (by rw[q])
     obtain⟨its,rv,tp,_⟩:=I.tuple sq;obtain⟨its',rv',tp',_⟩:=I.tuple sq';rw[depD] at hd;rw[aP] at pd pe;have key:=SeqAt.RcAt.tuples (A:=A) (e:=fun j=>eqD ((ds[j]?).getD .non) ((es[j]?).getD .non)) (show s.heap.IsTuple a its.toArray from tp) (show s.heap.IsTuple b its'.toArray from tp') (by omega) (fun j h1 h2=>by
      obtain⟨d,v,e1,r1,q1⟩:=jR rr rv h1;obtain⟨e,u,e2,r2,q2⟩:=jR rr' rv' h2;rw[e1,e2]
      have:=kE e1
      exact ih d e I (by omega) (by rw[units_in1];omega) (ck pd e1) (ck pe e2) r1 r2 q1 q2)
     have e:eqD (.tup ds) (.tup es)=((List.range (min its.toArray.size its'.toArray.size)).all (fun j=>eqD ((ds[j]?).getD .non) ((es[j]?).getD .non))&&its.toArray.size==its'.toArray.size):=by
      have l1:its.toArray.size=ds.length:=by rw[rr.len,rv.length];simp
      have l2:its'.toArray.size=es.length:=by rw[rr'.len,rv'.length];simp
      rw[eqD,l4,l1,l2]
     rw[e];exact SeqAt.EqAt.of_refs hab key
end
end DD
namespace DD
open PySem PySem.Spec PyProof.Rows L2
section
variable {X : Cx} {H : Hp}
def dAdd:D->D->MH->DK->Prop
 |.int i,.int j,M,Q=>Q (.int (i+j)) M
 |.str i,.str j,M,Q=>i.length+j.length<=sizeLine/\Q (.str (i++j)) M
 |.tup xs,.tup ys,M,Q=>(xs≠[]/\xs.length+ys.length<=sizeLine)/\Q (.tup (xs++ys)) M
 |.ref a,.ref b,M,Q=>match M a,M b with
  |some (.lst xs),some (.lst ys)=>xs.length+ys.length<=sizeLine/\∀p,M p=none->Q (.ref p) (updM M p (.lst (xs++ys)))
  |_,_=>False
 |_,_,_,_=>False
theorem JW:OpD X (binaryOp .Add) dAdd:=by
 intro x y v u H M Q rx ry rm h;cases x with
 |int i=>cases y with
  |int j=>cases RV.int_.1 rx;cases RV.int_.1 ry;exact ii KY ⟨i,j,rfl,rfl,aA (RV.int_.2 rfl) rm h⟩
  |_=>exact False.elim h
 |str i=>cases y with
  |str j=>cases RV.str_.1 rx;cases RV.str_.1 ry;exact ii D8 ⟨i,j,rfl,rfl,h.1,aA (RV.str_.2 rfl) rm h.2⟩
  |_=>exact False.elim h
 |tup xs=>cases y with
  |tup ys=>
   obtain⟨a,vs,rfl,sq,rr⟩:=RV.tup_.1 rx;obtain⟨b,us,rfl,sq',rr'⟩:=RV.tup_.1 ry;obtain⟨⟨h1,h2⟩,h3⟩:=h;refine ii Jo ⟨a,b,vs,us,rfl,rfl,sq,sq',fun z=>h1 ?_,by rw[←rr.len,←rr'.len];exact h2,fun z=>?_,fun z p hp=>?_⟩
   ·have:=rr.len;rw[z] at this;exact List.eq_nil_of_length_eq_zero this
   ·have:=rr'.len;rw[z] at this
    have:ys=[]:=List.eq_nil_of_length_eq_zero this
    subst this;rw[List.append_nil] at h3;exact aA rx rm h3
   ·have k:=Kp.new (o:=.tup (vs++us)) hp
    exact⟨k,.tup (xs++ys),M,RV.tup_.2 ⟨p,_,rfl,SqT.of aC,RVs.of (bd (RVs.mono k _ rr).p (RVs.mono k _ rr').p)⟩,rm.newH hp,h3⟩
  |_=>exact False.elim h
 |ref a=>cases y with
  |ref b=>
   cases RV.ref_.1 rx;cases RV.ref_.1 ry;have h:match M a,M b with
    |some (.lst xs),some (.lst ys)=>xs.length+ys.length<=sizeLine/\∀p,M p=none->Q (.ref p) (updM M p (.lst (xs++ys)))
    |_,_=>False:=h
   split at h
   ·rename_i xs ys e1 e2
    obtain⟨vs,q1,rr⟩:=rm a _ e1;obtain⟨us,q2,rr'⟩:=rm b _ e2;refine ii Lo ⟨a,b,vs,us,rfl,rfl,q1,q2,by rw[←rr.len,←rr'.len];exact h.1,fun p hp=>?_⟩;have k:=Kp.new (o:=.lst (vs++us)) hp;exact⟨k,.ref p,_,RV.ref_.2 rfl,rm.new (m:=.lst (xs++ys)) hp ⟨_,aC,RVs.of (bd (RVs.mono k _ rr).p (RVs.mono k _ rr').p)⟩,h.2 p (rm.fresh hp)⟩
   ·exact False.elim h
  |_=>exact False.elim h
 |_=>exact False.elim h
def dI(C:Int->Int->Prop)(g:Int->Int->Int):D->D->MH->DK->Prop
 |.int i,.int j,M,Q=>C i j/\Q (.int (g i j)) M
 |_,_,_,_=>False
theorem uA{f:Value->Value->Sem Value}{C:Int->Int->Prop}{g:Int->Int->Int}(h0:OpR X f (rI C fun i j=>.int (g i j))):OpD X f (dI C g):=by
 intro x y v u H M Q rx ry rm h;cases x with
 |int i=>cases y with
  |int j=>cases RV.int_.1 rx;cases RV.int_.1 ry;exact ii h0 ⟨i,j,rfl,rfl,h.1,aA (RV.int_.2 rfl) rm h.2⟩
  |_=>exact False.elim h
 |_=>exact False.elim h
def dI0(g:Int->Int->Int):D->D->MH->DK->Prop
 |.int i,.int j,M,Q=>Q (.int (g i j)) M
 |_,_,_,_=>False
theorem uB{f:Value->Value->Sem Value}{g:Int->Int->Int}(h0:OpR X f (rI0 fun i j=>.int (g i j))):OpD X f (dI0 g):=by
 intro x y v u H M Q rx ry rm h;cases x with
 |int i=>cases y with
  |int j=>cases RV.int_.1 rx;cases RV.int_.1 ry;exact ii h0 ⟨i,j,rfl,rfl,aA (RV.int_.2 rfl) rm h⟩
  |_=>exact False.elim h
 |_=>exact False.elim h
def dMul:D->D->MH->DK->Prop
 |.int i,.int j,M,Q=>CMul i j/\Q (.int (i*j)) M
 |.str z,.int n,M,Q=>(0<=n/\n<=1048576/\z.length*n.toNat<=1048576)/\Q (.str (Txt.mul z n)) M
 |.ref a,.int k,M,Q=>match M a with
  |some (.lst xs)=>(-1000000<=k/\k<=1000000/\xs.length*k.toNat<=sizeLine)/\∀p,M p=none->Q (.ref p) (updM M p (.lst (List.replicate k.toNat xs).flatten))
  |_=>False
 |_,_,_,_=>False
theorem JX:OpD X (binaryOp .Mult) dMul:=by
 intro x y v u H M Q rx ry rm h;cases x with
 |int i=>cases y with
  |int j=>cases RV.int_.1 rx;cases RV.int_.1 ry;exact ii K0 ⟨i,j,rfl,rfl,h.1,aA (RV.int_.2 rfl) rm h.2⟩
  |_=>exact False.elim h
 |str z=>cases y with
  |int n=>cases RV.str_.1 rx;cases RV.int_.1 ry;exact ii Ej ⟨z,n,rfl,rfl,h.1.1,h.1.2.1,h.1.2.2,aA (RV.str_.2 rfl) rm h.2⟩
  |_=>exact False.elim h
 |ref a=>cases y with
  |int k=>
   cases RV.ref_.1 rx;cases RV.int_.1 ry;have h:match M a with
    |some (.lst xs)=>(-1000000<=k/\k<=1000000/\xs.length*k.toNat<=sizeLine)/\∀p,M p=none->Q (.ref p) (updM M p (.lst (List.replicate k.toNat xs).flatten))
    |_=>False:=h
   split at h
   ·rename_i xs e1
    obtain⟨vs,q1,rr⟩:=rm a _ e1;refine ii Lp ⟨a,k,vs,rfl,rfl,q1,by omega,by omega,by rw[←rr.len];exact h.1.2.2,fun p hp=>?_⟩;have kk:=Kp.new (o:=.lst (List.replicate k.toNat vs).flatten) hp;exact⟨kk,.ref p,_,RV.ref_.2 rfl,rm.new (m:=.lst (List.replicate k.toNat xs).flatten) hp ⟨_,aC,RVs.of (FO (RVs.mono kk _ rr).p _)⟩,h.2 p (rm.fresh hp)⟩
   ·exact False.elim h
  |_=>exact False.elim h
 |_=>exact False.elim h
def dBin:Operator->D->D->MH->DK->Prop
 |.Add=>dAdd
 |.Sub=>dI0 fun i j=>i-j
 |.Mult=>dMul
 |.FloorDiv=>dI CDiv fun i j=>i / j
 |.Mod=>dI (fun _ j=>0<j) fun i j=>i%j
 |.Pow=>dI CPow fun i j=>i ^ j.toNat
 |.LShift=>dI CPow fun i j=>i*2 ^ j.toNat
 |.RShift=>dI (fun _ j=>0<=j) fun i j=>i / 2 ^ j.toNat
 |.BitAnd=>dI0 Builtin.bitAnd
 |.BitOr=>dI0 Builtin.bitOr
 |.BitXor=>dI0 Builtin.bitXor
 |_=>fun _ _ _ _=>False
theorem JY(op:Operator):OpD X (binaryOp op) (dBin op):=by
 cases op with
 |Add=>exact JW
 |Sub=>exact uB KZ
 |Mult=>exact JX
 |FloorDiv=>exact uA Ja
 |Mod=>exact uA K1
 |Pow=>exact uA K3
 |LShift=>exact uA K4
 |RShift=>exact uA K5
 |BitAnd=>exact uB K6
 |BitOr=>exact uB Mp
 |BitXor=>exact uB K7
 |_=>exact fun _ _ _ _ _ _ _ _ _ _ h=>False.elim h
def dIB(g:Int->Int->Bool):D->D->MH->DK->Prop
 |.int i,.int j,M,Q=>Q (.bl (g i j)) M
 |_,_,_,_=>False
theorem uC{f:Value->Value->Sem Value}{g:Int->Int->Bool}(h0:OpR X f (rI0 fun i j=>.bl (g i j))):OpD X f (dIB g):=by
 intro x y v u H M Q rx ry rm h;cases x with
 |int i=>cases y with
  |int j=>cases RV.int_.1 rx;cases RV.int_.1 ry;exact ii h0 ⟨i,j,rfl,rfl,aA (RV.bl_.2 rfl) rm h⟩
  |_=>exact False.elim h
 |_=>exact False.elim h
def dEq(x y:D)(M:MH)(Q:Bool->Prop):Prop:=match x,y with
 |.ref a,.ref b=>match rdL (M a),rdL (M b) with
  |some xs,some ys=>(aW xs=true/\aW ys=true/\bQ xs<=30)/\Q (eqDs xs ys)
  |_,_=>False
 |.ref a,y=>match rdL (M a) with
  |some _=>aP y=true/\Q false
  |none=>False
 |x,.ref b=>match rdL (M b) with
  |some _=>aP x=true/\Q false
  |none=>False
 |x,y=>(aP x=true/\aP y=true/\depD x<=30)/\Q (eqD x y)
theorem FY{A:Around}{s:Shared}{d e:D}{v u:V}{v' u':Value}{K:PySem.W.Frag}(f:lD d=true)(g:lD e=true)(rd:RV K H d v)(re:RV K H e u)(r:RelV v v')(r':RelV u u'):
  SeqAt.RcAt A s v' u' (eqD d e)/\SeqAt.RcNeAt A s v' u' (!eqD d e):=by
 cases d with
 |non=>
  cases RV.non_.1 rd;cases r;cases e with
  |non=>cases RV.non_.1 re;cases r';rw[eqD];exact⟨SeqAt.RcAt.none_none,SeqAt.RcNeAt.none_none⟩
  |bl b=>cases RV.bl_.1 re;cases r';rw[eqD]<;>first | exact⟨SeqAt.RcAt.none_bool b,SeqAt.RcNeAt.none_bool b⟩ | (intros;contradiction)
  |int b=>cases RV.int_.1 re;obtain⟨t,rfl⟩:=r';rw[eqD]<;>first | exact⟨SeqAt.RcAt.none_int b t,SeqAt.RcNeAt.none_int b t⟩ | (intros;contradiction)
  |str b=>cases RV.str_.1 re;obtain⟨t,rfl⟩:=r';rw[eqD]<;>first | exact⟨SeqAt.RcAt.none_str b t,SeqAt.RcNeAt.none_str b t⟩ | (intros;contradiction)
  |_=>exact absurd (show false=true from g) Bool.false_ne_true
 |bl a=>
  cases RV.bl_.1 rd;cases r;cases e with
  |non=>cases RV.non_.1 re;cases r';rw[eqD]<;>first | exact⟨SeqAt.RcAt.bool_none a,SeqAt.RcNeAt.bool_none a⟩ | (intros;contradiction)
  |bl b=>cases RV.bl_.1 re;cases r';rw[eqD];exact⟨SeqAt.RcAt.bool_bool a b,SeqAt.RcNeAt.bool_bool a b⟩
  |int b=>cases RV.int_.1 re;obtain⟨t,rfl⟩:=r';rw[eqD];exact⟨SeqAt.RcAt.bool_int a b t,SeqAt.RcNeAt.bool_int a b t⟩
  |str b=>cases RV.str_.1 re;obtain⟨t,rfl⟩:=r';rw[eqD]<;>first | exact⟨SeqAt.RcAt.bool_str a b t,SeqAt.RcNeAt.bool_str a b t⟩ | (intros;contradiction)
  |_=>exact absurd (show false=true from g) Bool.false_ne_true
 |int a=>
  cases RV.int_.1 rd;obtain⟨t',rfl⟩:=r;cases e with
  |non=>cases RV.non_.1 re;cases r';rw[eqD]<;>first | exact⟨SeqAt.RcAt.int_none a t',SeqAt.RcNeAt.int_none a t'⟩ | (intros;contradiction)
  |bl b=>cases RV.bl_.1 re;cases r';rw[eqD];exact⟨SeqAt.RcAt.int_bool a t' b,SeqAt.RcNeAt.int_bool a t' b⟩
  |int b=>cases RV.int_.1 re;obtain⟨t,rfl⟩:=r';rw[eqD];exact⟨SeqAt.RcAt.int_int a t' b t,SeqAt.RcNeAt.int_int a t' b t⟩
  |str b=>cases RV.str_.1 re;obtain⟨t,rfl⟩:=r';rw[eqD]<;>first | exact⟨SeqAt.RcAt.int_str a t' b t,SeqAt.RcNeAt.int_str a t' b t⟩ | (intros;contradiction)
  |_=>exact absurd (show false=true from g) Bool.false_ne_true
 |str a=>
  cases RV.str_.1 rd;obtain⟨t',rfl⟩:=r;cases e with
  |non=>cases RV.non_.1 re;cases r';rw[eqD]<;>first | exact⟨SeqAt.RcAt.str_none a t',SeqAt.RcNeAt.str_none a t'⟩ | (intros;contradiction)
  |bl b=>cases RV.bl_.1 re;cases r';rw[eqD]<;>first | exact⟨SeqAt.RcAt.str_bool a t' b,SeqAt.RcNeAt.str_bool a t' b⟩ | (intros;contradiction)
  |int b=>cases RV.int_.1 re;obtain⟨t,rfl⟩:=r';rw[eqD]<;>first | exact⟨SeqAt.RcAt.str_int a t' b t,SeqAt.RcNeAt.str_int a t' b t⟩ | (intros;contradiction)
  |str b=>cases RV.str_.1 re;obtain⟨t,rfl⟩:=r';rw[eqD];exact⟨SeqAt.RcAt.str_str a t' b t,SeqAt.RcNeAt.str_str a t' b t⟩
  |_=>exact absurd (show false=true from g) Bool.false_ne_true
 |_=>exact absurd (show false=true from f) Bool.false_ne_true
theorem wZ{A:Around}{s:Shared}{pins:List (Addr×Obj)}{ρ:L2.St}{a:Addr}{its:Array Value}{e:D}{u:V}{u':Value}(hu:A.units<cLine)(f:lD e=true)(tp:s.heap.IsTuple a its\/s.heap.IsList a its)(re:RV X.K H e u)(r':RelV u u'):
  (SeqAt.RcAt A s (.ref a) u' false/\SeqAt.RcNeAt A s (.ref a) u' true)/\(SeqAt.RcAt A s u' (.ref a) false/\SeqAt.RcNeAt A s u' (.ref a) true):=by
 rcases tp with tp | tp
 ·cases e with
  |non=>cases RV.non_.1 re;cases r';exact⟨⟨SeqAt.RcAt.tuple_none tp hu,SeqAt.RcNeAt.tuple_none tp hu⟩,⟨SeqAt.RcAt.none_tuple tp hu,SeqAt.RcNeAt.none_tuple tp hu⟩⟩
  |bl b=>cases RV.bl_.1 re;cases r';exact⟨⟨SeqAt.RcAt.tuple_bool b tp hu,SeqAt.RcNeAt.tuple_bool b tp hu⟩,⟨SeqAt.RcAt.bool_tuple b tp hu,SeqAt.RcNeAt.bool_tuple b tp hu⟩⟩
  |int b=>cases RV.int_.1 re;obtain⟨t,rfl⟩:=r';exact⟨⟨SeqAt.RcAt.tuple_int b t tp hu,SeqAt.RcNeAt.tuple_int b t tp hu⟩,⟨SeqAt.RcAt.int_tuple b t tp hu,SeqAt.RcNeAt.int_tuple b t tp hu⟩⟩
  |str b=>cases RV.str_.1 re;obtain⟨t,rfl⟩:=r';exact⟨⟨SeqAt.RcAt.tuple_str b t tp hu,SeqAt.RcNeAt.tuple_str b t tp hu⟩,⟨SeqAt.RcAt.str_tuple b t tp hu,SeqAt.RcNeAt.str_tuple b t tp hu⟩⟩
  |_=>exact absurd (show false=true from f) Bool.false_ne_true
 ·cases e with
  |non=>cases RV.non_.1 re;cases r';exact⟨⟨SeqAt.RcAt.list_none tp hu,SeqAt.RcNeAt.list_none tp hu⟩,⟨SeqAt.RcAt.none_list tp hu,SeqAt.RcNeAt.none_list tp hu⟩⟩
  |bl b=>cases RV.bl_.1 re;cases r';exact⟨⟨SeqAt.RcAt.list_bool b tp hu,SeqAt.RcNeAt.list_bool b tp hu⟩,⟨SeqAt.RcAt.bool_list b tp hu,SeqAt.RcNeAt.bool_list b tp hu⟩⟩
  |int b=>cases RV.int_.1 re;obtain⟨t,rfl⟩:=r';exact⟨⟨SeqAt.RcAt.list_int b t tp hu,SeqAt.RcNeAt.list_int b t tp hu⟩,⟨SeqAt.RcAt.int_list b t tp hu,SeqAt.RcNeAt.int_list b t tp hu⟩⟩
  |str b=>cases RV.str_.1 re;obtain⟨t,rfl⟩:=r';exact⟨⟨SeqAt.RcAt.list_str b t tp hu,SeqAt.RcNeAt.list_str b t tp hu⟩,⟨SeqAt.RcAt.str_list b t tp hu,SeqAt.RcNeAt.str_list b t tp hu⟩⟩
  |_=>exact absurd (show false=true from f) Bool.false_ne_true
def Rc2(A:Around)(s:Shared)(v u:Value)(b:Bool):Prop:=SeqAt.RcAt A s v u b/\SeqAt.RcNeAt A s v u (!b)
theorem JZ{A:Around}{s:Shared}{pins:List (Addr×Obj)}{ρ:L2.St}{ds es:List D}{vs us:List V}{its its':List Value}{a b:Addr}(I:Inv X pins ρ H s)(hd:bQ ds<=30)(hu:A.units+40<cLine)(pd:aW ds=true)(pe:aW es=true)
  (rr:RVs X.K H ds vs) (rr':RVs X.K H es us) (rv:Vals vs its) (rv':Vals us its') (tp:s.heap.IsTuple a its.toArray) (tp':s.heap.IsTuple b its'.toArray):Rc2 A s (.ref a) (.ref b) (eqDs ds es):=by
 have l1:its.toArray.size=ds.length:=by rw[rr.len,rv.length];simp
 have l2:its'.toArray.size=es.length:=by rw[rr'.len,rv'.length];simp
 have he:∀j (h1:j<its.toArray.size) (h2:j<its'.toArray.size),SeqAt.EqAt A.in1 s its.toArray[j] its'.toArray[j] (eqD ((ds[j]?).getD .non) ((es[j]?).getD .non)):=fun j h1 h2=>by
  obtain⟨d,v,e1,r1,q1⟩:=jR rr rv h1;obtain⟨e,u,e2,r2,q2⟩:=jR rr' rv' h2;rw[e1,e2]
  have:=kE e1
  exact zV 30 d e I (by omega) (by rw[units_in1];omega) (ck pd e1) (ck pe e2) r1 r2 q1 q2
 have e:eqDs ds es=((List.range (min its.toArray.size its'.toArray.size)).all (fun j=>eqD ((ds[j]?).getD .non) ((es[j]?).getD .non))&&its.toArray.size==its'.toArray.size):=by rw[l4,l1,l2]
 rw[e];exact⟨SeqAt.RcAt.tuples tp tp' (by omega) he,SeqAt.RcNeAt.tuples tp tp' (by omega) he⟩
theorem Ht {A:Around} {s:Shared} {pins:List (Addr × Obj)} {ρ:L2.St} {ds es:List D} {vs us:List V} {its its':List Value} {a b:Addr} (I:Inv X pins ρ H s) (hd:bQ ds<=30) (hu:A.units + 40 < cLine) (pd:aW ds = true) (pe:aW es = true)
  (rr:RVs X.K H ds vs) (rr':RVs X.K H es us) (rv:Vals vs its) (rv':Vals us its') (tp:s.heap.IsList a its.toArray) (tp':s.heap.IsList b its'.toArray):Rc2 A s (.ref a) (.ref b) (eqDs ds es):=by
 have l1:its.toArray.size = ds.length:=by rw [rr.len,rv.length]; simp
 have l2:its'.toArray.size = es.length:=by rw [rr'.len,rv'.length]; simp
 have he:∀ j (h1:j < its.toArray.size) (h2:j < its'.toArray.size),SeqAt.EqAt A.in1 s its.toArray[j] its'.toArray[j] (eqD ((ds[j]?).getD .non) ((es[j]?).getD .non)):=fun j h1 h2=>by
  obtain ⟨d,v,e1,r1,q1⟩:=jR rr rv h1
  obtain ⟨e,u,e2,r2,q2⟩:=jR rr' rv' h2
  rw [e1,e2]
  have:=kE e1
  exact zV 30 d e I (by omega) (by rw [units_in1]; omega) (ck pd e1) (ck pe e2) r1 r2 q1 q2
 by_cases hl:ds.length = es.length
 ·have e:eqDs ds es = (List.range its.toArray.size).all (fun j=>eqD ((ds[j]?).getD .non) ((es[j]?).getD .non)):=by rw [l4,l1,hl,Nat.min_self]; simp
  rw [e]
  exact ⟨SeqAt.RcAt.lists tp tp' (by omega) (by omega) he,SeqAt.RcNeAt.lists tp tp' (by omega) (by omega) he⟩
 ·have e:eqDs ds es = false:=by rw [l4]; simp [hl]
  rw [e]
  have hne:(its.toArray.size != its'.toArray.size) = true:=by rw [l1,l2]; simpa using hl
  exact ⟨SeqAt.RcAt.lists_lengths tp tp' hne (by omega),SeqAt.RcNeAt.lists_lengths tp tp' hne (by omega)⟩
theorem RM.list{K:PySem.W.Frag}{M:MH}{a:Addr}{ds:List D}(m:RM K M H)(h:rdL (M a)=some ds):∃vs,SqL K H a vs/\RVs K H ds vs:=by
 cases e:M a with
 |none=>rw[e] at h;cases h
 |some o=>
  rw[e] at h;cases o with
  |lst xs=>cases h;obtain⟨vs,q,r⟩:=m a _ e;exact⟨vs,SqL.of q,r⟩
  |rol xs=>cases h;obtain⟨vs,q,r⟩:=m a _ e;exact⟨vs,.inl q,r⟩
  |_=>cases h
theorem rc_D{s:Shared}{pins:List (Addr×Obj)}{ρ:L2.St}{M:MH}{x y:D}{v u:V}{v' u':Value}{Q:Bool->Prop}(I:Inv X pins ρ H s)(hu:X.A.units+40<cLine)(rx:RV X.K H x v)(ry:RV X.K H y u)(m:RM X.K M H)(r:RelV v v')(r':RelV u u')(h:dEq x y M Q):
  ∃b,Rc2 X.A s v' u' b/\Q b:=by
 have pp:aP x=true->aP y=true->depD x<=30->Q (eqD x y)->∃b,Rc2 X.A s v' u' b/\Q b:=fun px py hd q=>by
  rcases gq px with f | ⟨ds,rfl⟩
  ·rcases gq py with g | ⟨es,rfl⟩
   ·exact⟨_,FY f g rx ry r r',q⟩
   ·obtain⟨b,us,rfl,sq,rr⟩:=RV.tup_.1 ry
    obtain⟨its,rv,tp,_⟩:=I.tuple sq;cases r';rw[(qg f).2] at q;exact⟨false,(wZ (X:=X) (pins:=pins) (ρ:=ρ) (by omega) f (.inl (show s.heap.IsTuple b its.toArray from tp)) rx r).2,q⟩
  ·obtain⟨a,vs,rfl,sq,rr⟩:=RV.tup_.1 rx
   obtain⟨its,rv,tp,_⟩:=I.tuple sq;cases r;rcases gq py with g | ⟨es,rfl⟩
   ·rw[(qg g).1] at q
    exact⟨false,(wZ (X:=X) (pins:=pins) (ρ:=ρ) (by omega) g (.inl (show s.heap.IsTuple a its.toArray from tp)) ry r').1,q⟩
   ·obtain⟨b,us,rfl,sq',rr'⟩:=RV.tup_.1 ry
    obtain⟨its',rv',tp',_⟩:=I.tuple sq';cases r';rw[aP] at px py;rw[depD] at hd;rw[eqD] at q;exact⟨_,JZ I (by omega) hu px py rr rr' rv rv' (show s.heap.IsTuple a its.toArray from tp) (show s.heap.IsTuple b its'.toArray from tp'),q⟩
 have lp:∀{a:Addr}{w:V}{w':Value}{y:D}{xs:List D},rdL (M a)=some xs->RV X.K H y w->RelV w w'->aP y=true->(Rc2 X.A s (.ref a) w' false/\Rc2 X.A s w' (.ref a) false):=fun {a w w' y xs} hl ry r' py=>by
  obtain⟨vs,sq,rr⟩:=m.list hl;obtain⟨its,rv,tp,_⟩:=I.list sq;rcases gq py with g | ⟨es,rfl⟩
  ·have:=wZ (X:=X) (pins:=pins) (ρ:=ρ) (A:=X.A) (by omega) g (.inr tp.isList) ry r'
   exact⟨this.1,this.2⟩
  ·obtain⟨b,us,rfl,sq',rr'⟩:=RV.tup_.1 ry
   obtain⟨its',rv',tp',_⟩:=I.tuple sq';cases r';have tp':s.heap.IsTuple b its'.toArray:=tp';exact⟨⟨SeqAt.RcAt.list_tuple tp.isList tp' (by omega),SeqAt.RcNeAt.list_tuple tp.isList tp' (by omega)⟩,⟨SeqAt.RcAt.tuple_list tp' tp.isList (by omega),SeqAt.RcNeAt.tuple_list tp' tp.isList (by omega)⟩⟩
 cases x with
 |ref a=>
  cases RV.ref_.1 rx;cases r;cases y with
  |ref b=>
   cases RV.ref_.1 ry;cases r';have h:match rdL (M a),rdL (M b) with
    |some xs,some ys=>(aW xs=true/\aW ys=true/\bQ xs<=30)/\Q (eqDs xs ys)
    |_,_=>False:=h
   split at h
   ·rename_i xs ys e1 e2
    obtain⟨vs,sq,rr⟩:=m.list e1;obtain⟨us,sq',rr'⟩:=m.list e2;obtain⟨its,rv,tp,_⟩:=I.list sq;obtain⟨its',rv',tp',_⟩:=I.list sq';exact⟨_,Ht I h.1.2.2 hu h.1.1 h.1.2.1 rr rr' rv rv' tp.isList tp'.isList,h.2⟩
   ·exact False.elim h
  |_=>
   simp only[dEq] at h;split at h
   ·rename_i xs e1
    exact⟨false,(lp e1 ry r' h.1).1,h.2⟩
   ·exact False.elim h
 |_=>
  cases y with
  |ref b=>
   cases RV.ref_.1 ry;cases r';simp only[dEq] at h;split at h
   ·rename_i ys e1
    exact⟨false,(lp e1 rx r h.1).2,h.2⟩
   ·exact False.elim h
  |_=>exact pp h.1.1 h.1.2.1 h.1.2.2 h.2
def dEqV:D->D->MH->DK->Prop:=fun x y M Q=>dEq x y M fun b=>Q (.bl b) M
def dNeV:D->D->MH->DK->Prop:=fun x y M Q=>dEq x y M fun b=>Q (.bl (!b)) M
theorem Ly(hu:X.A.units+40<cLine):OpD X (compareOp .Eq) dEqV:=by
 intro x y v u H M Q rx ry rm h pins s ρ v' u' I r r';obtain⟨b,h1,q⟩:=rc_D I hu rx ry rm r r' h;exact h1.1 _ _ _ _ ⟨.bl b,H,I,rfl,aA (RV.bl_.2 rfl) rm q⟩
theorem LA(hu:X.A.units+40<cLine):OpD X (compareOp .NotEq) dNeV:=by
 intro x y v u H M Q rx ry rm h pins s ρ v' u' I r r';obtain⟨b,h1,q⟩:=rc_D I hu rx ry rm r r' h;exact h1.2 _ _ _ _ ⟨.bl (!b),H,I,rfl,aA (RV.bl_.2 rfl) rm q⟩
end
end DD
namespace DD
open PySem PySem.Spec PyProof.Rows L2
section
variable {X : Cx} {H : Hp} {e a b c : Expr} {es : List Expr} {pos : Pos}
noncomputable def uD(K:PySem.W.Frag)(H:Hp)(ds:List D)(x:D)(y:Value):Bool:=@decide (∃d v,d∈ds/\RV K H d v/\RelV v y/\eqD d x=true) (Classical.propDecidable _)
theorem x9{pins:List (Addr×Obj)}{ρ:L2.St}{s:Shared}{ds:List D}{x d:D}{v:V}{y:Value}(I:Inv X pins ρ H s)(pd:aW ds=true)(hd:d∈ds)(r:RV X.K H d v)(r':RelV v y):uD X.K H ds x y=eqD d x:=by
 have pg:∀d∈ds,aP d=true:=fun d h=>let⟨i,hi⟩:=List.getElem?_of_mem h;ck pd hi
 unfold uD;cases q:eqD d x with
 |true=>exact @decide_eq_true _ (Classical.propDecidable _) ⟨d,v,hd,r,r',q⟩
 |false=>
  refine @decide_eq_false _ (Classical.propDecidable _) ?_;rintro⟨d',v',hd',r1,r2,q'⟩
  have:=L2.RelV.inj r2 r'
  subst this
  have:=zU I d' d (pg d' hd') (pg d hd) r1 r
  subst this;rw[q] at q';cases q'
theorem ya{K:PySem.W.Frag}{x:D}{f:Value->Bool}:∀{ds:List D}{vs:List V}{its:List Value},RVs K H ds vs->Vals vs its->(∀d v u,d∈ds->RV K H d v->RelV v u->f u=eqD d x)->its.any f=ds.any fun d=>eqD d x
 |[],vs,its,r,rv,_=>by
  rw[RVs] at r;subst r;cases rv;rfl
 |d::ds,vs,its,r,rv,h=>by
  rw[RVs] at r;obtain⟨v,vs',rfl,r1,r2⟩:=r;cases rv with
  |cons q1 q2=>rw[List.any_cons,List.any_cons,h d v _ (List.mem_cons_self) r1 q1,ya r2 q2 fun d' v' u' hd=>h d' v' u' (List.mem_cons_of_mem _ hd)]
theorem yb{K:PySem.W.Frag}:∀{ds:List D}{vs:List V}{its:List Value}{y:Value},RVs K H ds vs->Vals vs its->y∈its->∃d v,d∈ds/\RV K H d v/\RelV v y
 |[],vs,its,y,r,rv,hy=>by rw[RVs] at r;subst r;cases rv;cases hy
 |d::ds,vs,its,y,r,rv,hy=>by
  rw[RVs] at r;obtain⟨v,vs',rfl,r1,r2⟩:=r;cases rv with
  |cons q1 q2=>
   rcases List.mem_cons.mp hy with rfl | hy
   ·exact⟨d,v,List.mem_cons_self,r1,q1⟩
   ·obtain⟨d',v',h1,h2⟩:=yb r2 q2 hy
    exact⟨d',v',List.mem_cons_of_mem _ h1,h2⟩
def keyD:D->Option Key
 |.int i=>some (.inl i)
 |.str x=>some (.inr x)
 |_=>none
theorem DF{K:PySem.W.Frag}{d:D}{k:Key}{v:V}(h:keyD d=some k)(r:RV K H d v):v=kV k:=by
 cases d with
 |int i=>cases h;exact RV.int_.1 r
 |str i=>cases h;exact RV.str_.1 r
 |_=>cases h
def valD(kvs:List (Key×D))(k:Key):Option D:=(kvs.find? fun kv=>decide (kv.1=k)).map (·.2)
theorem tN{k:Key}:∀{kvs:List (Key×D)}{kws:List (Key×V)},kws.map (·.1)=kvs.map (·.1)->(valV kws k).isSome=(valD kvs k).isSome
 |[],[],_=>rfl
 |[],_::_,e=>by cases e
 |_::_,[],e=>by cases e
 |(k1,d1)::kvs,(k2,v2)::kws,e=>by
  simp only[List.map_cons,List.cons.injEq] at e;obtain⟨e1,e2⟩:=e;subst e1;unfold valV valD;rw[List.find?_cons,List.find?_cons];by_cases q:k2=k
  ·simp only[decide_eq_true q,Option.map_some,Option.isSome_some]
  ·simp only[decide_eq_false q]
   exact tN e2
def rdD:Option MO->Option (List (Key×D))
 |some (.dic kvs)=>some kvs
 |some (.rod kvs)=>some kvs
 |_=>none
theorem RM.dict{K:PySem.W.Frag}{H:Hp}{M:MH}{a:Addr}{kvs:List (Key×D)}(m:RM K M H)(h:rdD (M a)=some kvs):∃kws:List (Key×V),Rd H a (.dK kws)/\kws.map (·.1)=kvs.map (·.1)/\RVs K H (kvs.map (·.2)) (kws.map (·.2)):=by
 cases e:M a with
 |none=>rw[e] at h;cases h
 |some o=>
  rw[e] at h;cases o with
  |dic xs=>cases h;obtain⟨kws,q,r⟩:=m a _ e;exact⟨kws,.inl q,r⟩
  |rod xs=>cases h;obtain⟨u,kws,q,r⟩:=m a _ e;exact⟨kws,.inr ⟨u,q⟩,r⟩
  |_=>cases h
def inD(x:D)(ds:List D):Bool:=ds.any fun d=>eqD d x
def rl{α:Type}(o:Option α)(Q:α->Prop):Prop:=match o with
 |some x=>Q x
 |none=>False
theorem zW{α:Type}{o:Option α}{Q:α->Prop}(h:rl o Q):∃x,o=some x/\Q x:=by
 cases o with
 |none=>exact False.elim h
 |some x=>exact⟨x,rfl,h⟩
def dInP(x y:D)(M:MH)(Q:Bool->Prop):Prop:=match y with
 |.tup ds=>(aP x=true/\aW ds=true/\bQ ds<=30)/\Q (inD x ds)
 |.ref a=>match rdL (M a) with
  |some ds=>(aP x=true/\aW ds=true/\bQ ds<=30)/\Q (inD x ds)
  |none=>rl (rdD (M a)) fun kvs=>rl (keyD x) fun k=>Q (valD kvs k).isSome
 |.str j=>match x with
  |.str i=>Q (!(Builtin.Str.occurrences j i 0 j.length 1).isEmpty)
  |_=>False
 |_=>False
theorem in_D{s:Shared}{pins:List (Addr×Obj)}{ρ:L2.St}{M:MH}{x y:D}{v u:V}{v' u':Value}{Q:Bool->Prop}(I:Inv X pins ρ H s)(hu:X.A.units+40<cLine)(rx:RV X.K H x v)(ry:RV X.K H y u)(m:RM X.K M H)(r:RelV v v')(r':RelV u u')(h:dInP x y M Q):
  ∃k,Q k/\(∀(Q':Value->Shared->Prop),(∀s',Inv X pins ρ H s'->Q' (.bool k) s')->wpAny (model X.prog X.w) X.A (compareOp .In v' u') Q' X.xe s)/\(∀(Q':Value->Shared->Prop),(∀s',Inv X pins ρ H s'->Q' (.bool (!k)) s')->wpAny (model X.prog X.w) X.A (compareOp .NotIn v' u') Q' X.xe s):=by
 have key:∀{ds:List D}{vs:List V}{its:List Value},aP x=true->aW ds=true->bQ ds<=30->RVs X.K H ds vs->Vals vs its ->
   (∀y,y∈its.toArray->SeqAt.EqAt X.A.in1 s y v' (uD X.K H ds x y))/\its.toArray.any (uD X.K H ds x)=inD x ds:=fun {ds vs its} px pd hd rr rv=>by
  refine⟨fun y hy=>?_,?_⟩
  ·obtain⟨d,w',h1,h2,h3⟩:=yb rr rv (by simpa using hy)
   rw[x9 I pd h1 h2 h3];obtain⟨i,hi⟩:=List.getElem?_of_mem h1
   have:=kE hi
   exact zV 30 d x I (by omega) (by rw[units_in1];omega) (ck pd hi) px h2 rx h3 r
  ·rw[List.any_toArray]
   exact ya rr rv fun d w' u h1 h2 h3=>x9 I pd h1 h2 h3
 cases y with
 |tup ds=>
  obtain⟨b,us,rfl,sq,rr⟩:=RV.tup_.1 ry;obtain⟨its,rv,tp,_⟩:=I.tuple sq;cases r';obtain⟨k1,k2⟩:=key h.1.1 h.1.2.1 h.1.2.2 rr rv;have tp:s.heap.IsTuple b its.toArray:=tp;exact⟨_,h.2,fun Q' q=>SeqAt.in_tupleAt _ tp k1 (by rw[k2];exact q s I),fun Q' q=>SeqAt.notIn_tupleAt _ tp k1 (by rw[k2];exact q s I)⟩
 |ref b=>
  cases RV.ref_.1 ry;cases r';have h:match rdL (M b) with
   |some ds=>(aP x=true/\aW ds=true/\bQ ds<=30)/\Q (inD x ds)
   |none=>rl (rdD (M b)) fun kvs=>rl (keyD x) fun k=>Q (valD kvs k).isSome:=h
  split at h
  ·rename_i ds e1
   obtain⟨vs,sq,rr⟩:=m.list e1;obtain⟨its,rv,tp,_⟩:=I.list sq;obtain⟨k1,k2⟩:=key h.1.1 h.1.2.1 h.1.2.2 rr rv;exact⟨_,h.2,fun Q' q=>SeqAt.in_listAt _ tp.isList k1 (by rw[k2];exact q s I),fun Q' q=>SeqAt.notIn_listAt _ tp.isList k1 (by rw[k2];exact q s I)⟩
  ·obtain⟨kvs,e1,h⟩:=zW h
   obtain⟨k,e2,h⟩:=zW h;obtain⟨kws,e3,e4,_⟩:=m.dict e1
   have:=DF e2 rx
   subst this;have g:DGet H b (kV k) (valV kws k):=.inl ⟨kws,k,e3,rfl,rfl⟩;refine⟨_,h,fun Q' q=>d_in (by omega) I g r fun s' I'=>?_,fun Q' q=>Js (by omega) I g r fun s' I'=>?_⟩
   ·rw[tN e4];exact q s' I'
   ·rw[tN e4];exact q s' I'
 |str j=>
  cases RV.str_.1 ry;cases x with
  |str i=>
   cases RV.str_.1 rx;obtain⟨t,rfl⟩:=r;obtain⟨t',rfl⟩:=r';exact⟨_,h,fun Q' q=>P.in_str (q s I),fun Q' q=>notIn_str (q s I)⟩
  |_=>exact False.elim h
 |_=>exact False.elim h
def dInV:R2d:=fun x y M Q=>dInP x y M fun b=>Q (.bl b) M
def w4:R2d:=fun x y M Q=>dInP x y M fun b=>Q (.bl (!b)) M
theorem LB(hu:X.A.units+40<cLine):OpD X (compareOp .In) dInV:=by
 intro x y v u H M Q rx ry rm h pins s ρ v' u' I r r';obtain⟨b,q,h1,_⟩:=in_D I hu rx ry rm r r' h;exact h1 _ fun s' I'=>⟨.bl b,H,I',rfl,aA (RV.bl_.2 rfl) rm q⟩
theorem FZ(hu:X.A.units+40<cLine):OpD X (compareOp .NotIn) w4:=by
 intro x y v u H M Q rx ry rm h pins s ρ v' u' I r r';obtain⟨b,q,_,h1⟩:=in_D I hu rx ry rm r r' h;exact h1 _ fun s' I'=>⟨.bl (!b),H,I',rfl,aA (RV.bl_.2 rfl) rm q⟩
def zu:D->Bool
 |.non=>true
 |_=>false
def isBl:D->Bool
 |.bl _=>true
 |_=>false
def isB:Bool->D->Bool
 |true,.bl a=>a
 |false,.bl a=>!a
 |_,_=>false
def isW(x y:D):Bool:=match y with
 |.non=>true
 |.bl _=>isBl x
 |_=>false
def Ey(x y:D):Bool:=match y with
 |.non=>zu x
 |.bl b=>isB b x
 |_=>false
def dIsV:R2d:=fun x y M Q=>isW x y=true/\Q (.bl (Ey x y)) M
def xa:R2d:=fun x y M Q=>isW x y=true/\Q (.bl (!Ey x y)) M
theorem tO{K:PySem.W.Frag}{x:D}{v:V}(r:RV K H x v):decide (v=.non)=zu x:=by
 cases x with
 |non=>cases RV.non_.1 r;rfl
 |tup ds=>obtain⟨a,xs,rfl,_⟩:=RV.tup_.1 r;rfl
 |bl _=>cases RV.bl_.1 r;rfl
 |int _=>cases RV.int_.1 r;rfl
 |str _=>cases RV.str_.1 r;rfl
 |ref _=>cases RV.ref_.1 r;rfl
 |ty _=>cases RV.ty_.1 r;rfl
theorem LC(a b:Bool):(a==b)=isB b (.bl a):=by cases a<;>cases b<;>rfl
theorem LD:OpD X (compareOp .Is) dIsV:=by
 intro x y v u H M Q rx ry rm h;obtain⟨h1,h2⟩:=h;cases y with
 |non=>
  cases RV.non_.1 ry;exact ii La ⟨rfl,by rw[tO rx];exact aA (RV.bl_.2 rfl) rm h2⟩
 |bl b=>
  cases x with
  |bl a=>
   cases RV.bl_.1 rx;cases RV.bl_.1 ry;intro pins s ρ v' u' I r r';cases r;cases r';refine is_bool ?_;rw[LC];exact⟨.bl (isB b (.bl a)),H,I,rfl,aA (RV.bl_.2 rfl) rm h2⟩
  |_=>cases h1
 |_=>cases h1
theorem F1:OpD X (compareOp .IsNot) xa:=by
 intro x y v u H M Q rx ry rm h
 obtain ⟨h1,h2⟩:=h
 cases y with
 | non=>
  cases RV.non_.1 ry
  exact ii Jb ⟨rfl,by rw [tO rx]; exact aA (RV.bl_.2 rfl) rm h2⟩
 | bl b=>
  cases x with
  | bl a=>
   cases RV.bl_.1 rx
   cases RV.bl_.1 ry
   intro pins s ρ v' u' I r r'
   cases r
   cases r'
   refine isnot_bool ?_
   rw [show (a != b) = !isB b (.bl a) by cases a <;> cases b <;> rfl]
   exact ⟨.bl (!isB b (.bl a)),H,I,rfl,aA (RV.bl_.2 rfl) rm h2⟩
  | _=>cases h1
 | _=>cases h1
def dCmp:CmpOp->R2d
 |.Eq=>dEqV
 |.NotEq=>dNeV
 |.Lt=>dIB fun i j=>decide (i<j)
 |.LtE=>dIB fun i j=>decide (i<=j)
 |.Gt=>dIB fun i j=>decide (j<i)
 |.GtE=>dIB fun i j=>decide (j<=i)
 |.Is=>dIsV
 |.IsNot=>xa
 |.In=>dInV
 |.NotIn=>w4
theorem DG(hu:X.A.units+40<cLine)(op:CmpOp):OpD X (compareOp op) (dCmp op):=by
 cases op with
 |Eq=>exact Ly hu
 |NotEq=>exact LA hu
 |Lt=>exact uC Mq
 |LtE=>exact uC Mr
 |Gt=>exact uC Ms
 |GtE=>exact uC Mu
 |Is=>exact LD
 |IsNot=>exact F1
 |In=>exact LB hu
 |NotIn=>exact FZ hu
def xW(X:Cx):R2:=fun x y H Q=>∀value slice pins s ρ v u,Inv X pins ρ H s->RelV x v->RelV y u->subscripted slice false v u=operate [v,u] (getItem v u)->wpAny (model X.prog X.w) X.A (subscriptTail value slice v u) (EP X pins ρ Q) X.xe s
theorem ix_W:IxR X (xW X):=fun value slice pins s σ _ _ _ v u _ I rx ry h hs=>h value slice pins s σ v u I rx ry hs
theorem mD{r:R2}{x y:V}{Q:VK}(h:IxR X r)(q:r x y H Q):xW X x y H Q:=fun value slice pins s ρ v u I rx ry hs=>h value slice pins s ρ H x y v u Q I rx ry q hs
theorem J0{x y:V}{Q Q':VK}(h:xW X x y H Q)(g:∀v H',Q v H'->Q' v H'):xW X x y H Q':=fun value slice pins s ρ v u I rx ry hs=>thn (h value slice pins s ρ v u I rx ry hs) fun _ _ ⟨v,H',I',r,q⟩=>⟨v,H',I',r,g v H' q⟩
theorem rn(hu:X.A.units+1<cLine):IxR X (fun x y H Q=>∃a v,x=.ref a/\DGet H a y (some v)/\Q v H):=by
 intro value slice pins s σ H x y v u Q I rx ry h hs;obtain⟨a,z,rfl,g,q⟩:=h;cases rx;exact tail_any (Cb I g) PySem.F.slot_dict_getitem.lookup (FD hu I g ry fun w' s3 I3 rw'=>⟨z,H,I3,rw',q⟩) hs
theorem nt{K:PySem.W.Frag}:∀{kvs:List (Key×D)}{kws:List (Key×V)}{k:Key}{d:D},kws.map (·.1)=kvs.map (·.1)->RVs K H (kvs.map (·.2)) (kws.map (·.2))->valD kvs k=some d->∃v,valV kws k=some v/\RV K H d v
 |[],_,_,_,_,_,h=>by cases h
 |(k',d')::kvs,[],_,_,e,_,_=>by cases e
 |(k',d')::kvs,(k2,v2)::kws,k,d,e,r,h=>by
  simp only[List.map_cons,List.cons.injEq] at e;obtain⟨e1,e2⟩:=e;subst e1;simp only[List.map_cons] at r;rw[RVs] at r;obtain⟨v,vs,z,r1,r2⟩:=r;cases z;unfold valD at h;unfold valV;rw[List.find?_cons] at h ⊢;by_cases q:k2=k
  ·simp only[decide_eq_true q,Option.map_some] at h ⊢
   cases h;exact⟨v2,rfl,r1⟩
  ·simp only[decide_eq_false q] at h ⊢
   exact nt e2 r2 h
def optD{α:Type}(o:Option α)(Q:α->Prop):Prop:=match o with
 |some x=>Q x
 |none=>False
theorem aT{α:Type}{o:Option α}{Q:α->Prop}(h:optD o Q):∃x,o=some x/\Q x:=by
 cases o with
 |none=>exact False.elim h
 |some x=>exact⟨x,rfl,h⟩
def dIx:R2d:=fun x y M Q=>match x,y with
 |.tup ds,.int i=>optD (atI ds i) fun d=>Q d M
 |.str z,.int i=>z.length<=sizeLine/\optD (atI z.cps.toList i) fun c=>Q (.str ⟨#[c]⟩) M
 |.ref a,.int i=>match M a with
  |some (.lst ds)=>optD (atI ds i) fun d=>Q d M
  |some (.rol ds)=>optD (atI ds i) fun d=>Q d M
  |some (.dic kvs)=>optD (valD kvs (.inl i)) fun d=>Q d M
  |some (.rod kvs)=>optD (valD kvs (.inl i)) fun d=>Q d M
  |_=>False
 |.ref a,.str k=>match M a with
  |some (.dic kvs)=>optD (valD kvs (.inr k)) fun d=>Q d M
  |some (.rod kvs)=>optD (valD kvs (.inr k)) fun d=>Q d M
  |_=>False
 |_,_=>False
theorem zX{K:PySem.W.Frag}{ds:List D}{vs:List V}{i:Int}{d:D}(rr:RVs K H ds vs)(h:atI ds i=some d):∃v,atI vs i=some v/\RV K H d v:=by
 unfold atI at h ⊢;rw[←rr.len];cases q:ixN ds.length i with
 |none=>rw[q] at h;cases h
 |some j=>
  rw[q] at h;obtain⟨v,hv,r⟩:=d5 rr.p (show ds[j]?=some d from h);exact⟨v,hv,r⟩
theorem ixd(hu:X.A.units+40<cLine){x y:D}{v u:V}{M:MH}{Q:DK}(rx:RV X.K H x v)(ry:RV X.K H y u)(rm:RM X.K M H)(h:dIx x y M Q):xW X v u H (lift X.K H Q):=by
 cases x with
 |tup ds=>cases y with
  |int i=>
   obtain⟨d,e1,q⟩:=aT h;obtain⟨a,vs,rfl,sq,rr⟩:=RV.tup_.1 rx;cases RV.int_.1 ry;obtain⟨w',e2,r⟩:=zX rr e1;exact mD Lj ⟨a,vs,i,w',rfl,rfl,sq,e2,aA r rm q⟩
  |_=>exact False.elim h
 |str z=>cases y with
  |int i=>
   obtain⟨h1,h⟩:=h;obtain⟨c,e1,q⟩:=aT h;cases RV.str_.1 rx;cases RV.int_.1 ry;exact mD Lk ⟨z,i,c,rfl,rfl,h1,e1,aA (RV.str_.2 rfl) rm q⟩
  |_=>exact False.elim h
 |ref a=>
  cases RV.ref_.1 rx;cases y with
  |int i=>
   cases RV.int_.1 ry;have h:match M a with
    |some (.lst ds)=>optD (atI ds i) fun d=>Q d M
    |some (.rol ds)=>optD (atI ds i) fun d=>Q d M
    |some (.dic kvs)=>optD (valD kvs (.inl i)) fun d=>Q d M
    |some (.rod kvs)=>optD (valD kvs (.inl i)) fun d=>Q d M
    |_=>False:=h
   split at h
   ·rename_i ds e0
    obtain⟨d,e1,q⟩:=aT h;obtain⟨vs,e2,rr⟩:=rm a _ e0;obtain⟨w',e3,r⟩:=zX rr e1;exact mD Dr ⟨a,vs,i,w',rfl,rfl,SqL.of e2,e3,aA r rm q⟩
   ·rename_i ds e0
    obtain⟨d,e1,q⟩:=aT h;obtain⟨vs,e2,rr⟩:=rm a _ e0;obtain⟨w',e3,r⟩:=zX rr e1;exact mD Dr ⟨a,vs,i,w',rfl,rfl,.inl e2,e3,aA r rm q⟩
   ·rename_i kvs e0
    obtain⟨d,e1,q⟩:=aT h;obtain⟨kws,e2,e3,rr⟩:=rm a _ e0;obtain⟨w',e4,r⟩:=nt e3 rr e1;exact mD (rn (by omega)) ⟨a,w',rfl,by rw[←e4];exact DGet.k (k:=.inl i) e2,aA r rm q⟩
   ·rename_i kvs e0
    obtain⟨d,e1,q⟩:=aT h;obtain⟨u0,kws,e2,e3,rr⟩:=rm a _ e0;obtain⟨w',e4,r⟩:=nt e3 rr e1;exact mD (rn (by omega)) ⟨a,w',rfl,by rw[←e4];exact .inl ⟨kws,.inl i,.inr ⟨u0,e2⟩,rfl,rfl⟩,aA r rm q⟩
   ·exact False.elim h
  |str k=>
   cases RV.str_.1 ry;have h:match M a with
    |some (.dic kvs)=>optD (valD kvs (.inr k)) fun d=>Q d M
    |some (.rod kvs)=>optD (valD kvs (.inr k)) fun d=>Q d M
    |_=>False:=h
   split at h
   ·rename_i kvs e0
    obtain⟨d,e1,q⟩:=aT h;obtain⟨kws,e2,e3,rr⟩:=rm a _ e0;obtain⟨w',e4,r⟩:=nt e3 rr e1;exact mD (rn (by omega)) ⟨a,w',rfl,by rw[←e4];exact DGet.k (k:=.inr k) e2,aA r rm q⟩
   ·rename_i kvs e0
    obtain⟨d,e1,q⟩:=aT h;obtain⟨u0,kws,e2,e3,rr⟩:=rm a _ e0;obtain⟨w',e4,r⟩:=nt e3 rr e1;exact mD (rn (by omega)) ⟨a,w',rfl,by rw[←e4];exact .inl ⟨kws,.inr k,.inr ⟨u0,e2⟩,rfl,rfl⟩,aA r rm q⟩
   ·exact False.elim h
  |_=>exact False.elim h
 |_=>exact False.elim h
def l5:Expr->Bool
 |.Slice _ _ _ _=>false
 |_=>true
theorem J1(h:l5 b=true):Dq b:=by
 intro o i;cases b<;>first | rfl | (exact absurd (show false=true from h) Bool.false_ne_true)
theorem LE(hu:X.A.units+40<cLine){ta tb:WE}(ha:PEd X a ta)(hb:PEd X b tb)(hs:l5 b=true):PEd X (.Subscript a b pos) (wOp dIx ta tb):=by
 intro σ M ρ H Q rs rm h;refine bz (MB ix_W (pe_W a) (pe_W b) (J1 hs)) ?_;show tW X a ρ H _;refine aK (two ha hb rs rm h) fun v H1 q1=>?_
 show tW X b ρ H1 _;refine aK q1 fun u H2 zz5=>?_
 obtain⟨k,x,y,M2,r1,r2,m2,q⟩:=zz5;exact J0 (ixd hu r1 r2 m2 q) fun _ _=>bN k
end
end DD
namespace HT
open PySem PySem.Spec PyProof.Rows L2
section
variable {prog : Program} {w : World} {A : Around} {E : Value -> Shared -> Prop} {s : Shared}
theorem rX{t sl:Addr}{items:Array Value}{vl vu:Value}{lo hi:Option Int}{Q:Value->Shared->Prop}(ht:IsTup s.heap t items)(hs:s.heap.IsSliceOf sl vl vu .none)(pl:IsPart vl lo)(pu:IsPart vu hi)
  (hw:sIx items.size 0 lo=0/\sIx items.size items.size hi=items.size) (h:Q (.ref t) s):wpAny (model prog w) A (getItem (.ref t) (.ref sl)) Q E s:=by
 obtain⟨os,hos,hcs,hds⟩:=id hs;have hTs:s.TypeIs (.ref sl) "slice":=⟨os,hos,hcs⟩;unfold getItem;try with_reducible refine wpAny_holding ?_
 first | refine wpAny_bind (wpAny_pure ?_) | skip
 refine wpAny_bind (wpAny_sequenceKey ht.typeIs (by decide) ?_);refine wpAny_bind (wpAny_callSpecial?_slot (name:=Str.ofString "__getitem__") ht.typeIs PyProof.Rows.slot_tuple_getitem
  (wpAny_call_entry PyProof.Rows.slot_tuple_getitem ht.typeIs entry_tuple_getitem ?_ (args_tuple_getitem _ _)))
 show wpAny _ _ (Builtin.Tuple.tupleItemsOf (.ref t) >>= _) _ _ s;refine wpAny_bind (tupleItemsOf_ ht ?_);refine wpAny_bind (wpAny_typeOf hTs ?_);rw[if_pos (by decide)];refine wpAny_bind (lW hs pl pu ?_);show wpAny _ _ (if(((sIx items.size 0 lo:Nat):Int)==0&&(1:Int)==1&&(sIx items.size items.size hi-sIx items.size 0 lo)==items.size)=true then _ else _) _ _ s;rw[if_pos (by rw[hw.1,hw.2];simp)];refine wpAny_bind (m:=Builtin.Tuple.tupleIsExact _) (wpAny_bind (wpAny_typeOf ht.typeIs (wpAny_pure ?_)));rw[if_pos (by decide)];refine wpAny_bind (wpAny_rule ?_);exact wpAny_pure ⟨_,rfl,wpAny_pure h⟩
end
end HT
namespace DD
open PySem PySem.Spec PyProof.Rows L2
section
variable {X : Cx} {H : Hp} {e a b c o : Expr} {es : List Expr} {pos : Pos}
theorem LF:SlR X (fun x lo hi H Q=>∃z,x=.str z/\z.length<=sizeLine/\Q (.str (Txt.slice z lo hi)) H):=by
 intro pins s σ H x v vl vu lo hi sl Q I rx hs pl pu h;obtain⟨z,rfl,hz,q⟩:=h;obtain⟨t,rfl⟩:=rx;obtain⟨ob,h1,h2,h3⟩:=hs;refine⟨"str",_,F.slot_str_getitem.lookup,typeIs_str _ _ _,?_⟩;cases pl with
 |none=>cases pu with
  |none=>exact wpAny_getItem_str_slice (l:=none) (u:=none) (st:=none) ⟨ob,h1,h2,h3⟩ rfl (post_val_or_str ⟨Nat.le_trans (Txt.slice_le z _ _) hz,fun t' k=>⟨.str _,H,I.tok _,⟨t',rfl⟩,q⟩⟩)
  |int j u=>exact wpAny_getItem_str_slice (l:=none) (u:=some (j,u)) (st:=none) ⟨ob,h1,h2,h3⟩ rfl (post_val_or_str ⟨Nat.le_trans (Txt.slice_le z _ _) hz,fun t' k=>⟨.str _,H,I.tok _,⟨t',rfl⟩,q⟩⟩)
 |int i t0=>cases pu with
  |none=>exact wpAny_getItem_str_slice (l:=some (i,t0)) (u:=none) (st:=none) ⟨ob,h1,h2,h3⟩ rfl (post_val_or_str ⟨Nat.le_trans (Txt.slice_le z _ _) hz,fun t' k=>⟨.str _,H,I.tok _,⟨t',rfl⟩,q⟩⟩)
  |int j u=>exact wpAny_getItem_str_slice (l:=some (i,t0)) (u:=some (j,u)) (st:=none) ⟨ob,h1,h2,h3⟩ rfl (post_val_or_str ⟨Nat.le_trans (Txt.slice_le z _ _) hz,fun t' k=>⟨.str _,H,I.tok _,⟨t',rfl⟩,q⟩⟩)
def slW(X:Cx):V->Option Int->Option Int->Hp->VK->Prop:=fun x lo hi H Q=>∀pins s ρ v vl vu sl,Inv X pins ρ H s->RelV x v->s.heap.IsSliceOf sl vl vu .none->IsPart vl lo->IsPart vu hi ->
 ∃T id,typeLookup (.type T) "__getitem__" = pure (some (.builtin id))/\s.TypeIs v T/\wpAny (model X.prog X.w) X.A (getItem v (.ref sl)) (EP X pins ρ Q) X.xe s
theorem sl_W:SlR X (slW X):=fun pins s σ _ _ v vl vu _ _ sl _ I rx hs pl pu h=>h pins s σ v vl vu sl I rx hs pl pu
theorem uE{r:V->Option Int->Option Int->Hp->VK->Prop}{x:V}{lo hi:Option Int}{Q:VK}(h:SlR X r)(q:r x lo hi H Q):slW X x lo hi H Q:=fun pins s ρ v vl vu sl I rx hs pl pu=>h pins s ρ H x v vl vu lo hi sl Q I rx hs pl pu q
theorem Hu{x:V}{lo hi:Option Int}{Q Q':VK}(h:slW X x lo hi H Q)(g:∀v H',Q v H'->Q' v H'):slW X x lo hi H Q':=fun pins s ρ v vl vu sl I rx hs pl pu=>
 let⟨T,id,h1,h2,h3⟩:=h pins s ρ v vl vu sl I rx hs pl pu;⟨T,id,h1,h2,thn h3 fun _ _ ⟨v,H',I',r,q⟩=>⟨v,H',I',r,g v H' q⟩⟩
def cutL{α:Type}(xs:List α)(lo hi:Option Int):List α:=(xs.drop (HT.sIx xs.length 0 lo)).take (HT.sIx xs.length xs.length hi-HT.sIx xs.length 0 lo)
theorem F2{K:PySem.W.Frag}{ds:List D}{vs:List V}(r:RVs K H ds vs)(lo hi:Option Int):RVs K H (cutL ds lo hi) (cutV vs lo hi):=by
 unfold cutL cutV;rw[←r.len];exact RVs.of (rf _ (Dt _ r.p))
def rSlW(K:PySem.W.Frag):V->Option Int->Option Int->Hp->VK->Prop:=fun x lo hi H Q=>∃a xs,x=.ref a/\SqT K H a xs/\(HT.sIx xs.length 0 lo=0/\HT.sIx xs.length xs.length hi=xs.length)/\Q (.ref a) H
theorem J2:SlR X (rSlW X.K):=by
 intro pins s σ H x v vl vu lo hi sl Q I rx hs pl pu h;obtain⟨a,xs,rfl,hx,hw,q⟩:=h;cases rx;obtain⟨its,r,ht,hz⟩:=I.tuple hx;have hlen:its.toArray.size=xs.length:=by rw[List.size_toArray];exact r.length.symm
 refine⟨"tuple",_,PyProof.Rows.slot_tuple_getitem.lookup,ht.typeIs,?_⟩;exact HT.rX ht hs pl pu (by rw[hlen];exact hw) ⟨.ref a,H,I,rfl,q⟩
def dSl(x:D)(lo hi:Option Int)(M:MH)(Q:DK):Prop:=match x with
 |.tup ds=>Q (.tup (cutL ds lo hi)) M
 |.str z=>z.length<=sizeLine/\Q (.str (Txt.slice z lo hi)) M
 |.ref a=>optD (rdL (M a)) fun ds=>∀p,M p=none->Q (.ref p) (updM M p (.lst (cutL ds lo hi)))
 |_=>False
theorem sld{x:D}{v:V}{lo hi:Option Int}{M:MH}{Q:DK}(rx:RV X.K H x v)(rm:RM X.K M H)(h:dSl x lo hi M Q):slW X v lo hi H (lift X.K H Q):=by
 cases x with
 |tup ds=>
  obtain⟨a,vs,rfl,sq,rr⟩:=RV.tup_.1 rx;by_cases hw:HT.sIx ds.length 0 lo=0/\HT.sIx ds.length ds.length hi=ds.length
  ·have h:Q (.tup (cutL ds lo hi)) M:=h
   have e:cutL ds lo hi=ds:=by unfold cutL;rw[hw.1,hw.2];simp
   rw[e] at h;exact uE J2 ⟨a,vs,rfl,sq,by rw[←rr.len];exact hw,aA rx rm h⟩
  refine uE Li ⟨a,vs,rfl,sq,by rw[←rr.len];exact hw,fun p hp=>?_⟩;have k:=Kp.new (o:=.tup (cutV vs lo hi)) hp;exact⟨k,.tup (cutL ds lo hi),M,RV.tup_.2 ⟨p,_,rfl,SqT.of aC,RVs.mono k _ (F2 rr lo hi)⟩,rm.newH hp,h⟩
 |str z=>cases RV.str_.1 rx;exact uE LF ⟨z,rfl,h.1,aA (RV.str_.2 rfl) rm h.2⟩
 |ref a=>
  cases RV.ref_.1 rx;obtain⟨ds,e1,q⟩:=aT h;obtain⟨vs,sq,rr⟩:=rm.list e1;refine uE Jp ⟨a,vs,rfl,sq,fun p hp=>?_⟩;have k:=Kp.new (o:=.lst (cutV vs lo hi)) hp;exact⟨k,.ref p,_,RV.ref_.2 rfl,rm.new (m:=.lst (cutL ds lo hi)) hp ⟨_,aC,RVs.mono k _ (F2 rr lo hi)⟩,q p (rm.fresh hp)⟩
 |_=>exact False.elim h
def intD(x:D)(Q:Int->Prop):Prop:=match x with
 |.int i=>Q i
 |_=>False
theorem rp{x:D}{Q:Int->Prop}(h:intD x Q):∃i,x=.int i/\Q i:=by
 cases x with
 |int i=>exact⟨i,rfl,h⟩
 |_=>exact False.elim h
abbrev WO:=DS->MH->(Option Int->MH->Prop)->Prop
def oWp(X:Cx)(e:Option Expr):TO:=fun ρ H Q=>∀pins s,Inv X pins ρ H s->wpAny (model X.prog X.w) X.A (evalPart e X.env) (fun u s'=>∃o H',Inv X pins ρ H' s'/\IsPart u o/\Q o H') X.xe s
theorem po_W(e:Option Expr):PO X e (oWp X e):=fun pins s _ _ _ I h=>h pins s I
def POd(X:Cx)(e:Option Expr)(t:WO):Prop:=∀σ M ρ H Q,RS X.K H σ ρ->RM X.K M H->t σ M Q->oWp X e ρ H fun o H'=>Kp H H'/\∃M',RM X.K M' H'/\Q o M'
theorem Hv:POd X none (fun _ M Q=>Q none M):=fun σ M ρ H Q rs rm q pins s I=>Jm pins s ρ H _ I ⟨Kp.refl H,M,rm,q⟩
theorem Hw{t:WE}(h:PEd X e t):POd X (some e) (fun σ M Q=>t σ M fun x M1=>intD x fun i=>Q (some i) M1):=fun σ M ρ H Q rs rm q pins s I=>
 Jn (pe_W e) pins s ρ H _ I (aK (h σ M ρ H _ rs rm q) fun v H1 ⟨k1,x,M1,r1,m1,q1⟩=>by
  obtain⟨i,rfl,q1⟩:=rp q1;exact⟨i,RV.int_.1 r1,k1,M1,m1,q1⟩)
theorem zY{e:Option Expr}{ρ:L2.St}{Q Q':Option Int->Hp->Prop}(h:oWp X e ρ H Q)(f:∀o H',Q o H'->Q' o H'):oWp X e ρ H Q':=fun pins s I=>thn (h pins s I) fun _ _ ⟨o,H',I',r,q⟩=>⟨o,H',I',r,f o H' q⟩
def wSl(ta:WE)(tl th:WO):WE:=fun σ M Q=>ta σ M fun x M1=>tl σ M1 fun l M2=>th σ M2 fun u M3=>dSl x l u M3 Q
theorem LG{ta:WE}{tl th:WO}{lo hi:Option Expr}{p2:Pos}(ha:PEd X a ta)(hl:POd X lo tl)(hh:POd X hi th):PEd X (.Subscript a (.Slice lo hi none p2) pos) (wSl ta tl th):=by
 intro σ M ρ H Q rs rm h;refine bz (Hb sl_W (pe_W a) (po_W lo) (po_W hi)) ?_;show tW X a ρ H _;refine aK (ha σ M ρ H _ rs rm h) fun v H1 zz1=>?_
 obtain⟨k1,x,M1,r1,m1,q1⟩:=zz1;show oWp X lo ρ H1 _;refine zY (hl σ M1 ρ H1 _ (rs.mono k1) m1 q1) fun l H2 zz2=>?_
 obtain⟨k2,M2,m2,q2⟩:=zz2;show oWp X hi ρ H2 _;refine zY (hh σ M2 ρ H2 _ (rs.mono (k1.trans k2)) m2 q2) fun u H3 zz3=>?_
 obtain⟨k3,M3,m3,q3⟩:=zz3;exact Hu (sld (RV.mono (k2.trans k3) x r1) m3 q3) fun _ _=>bN (k1.trans (k2.trans k3))
def cW(X:Cx)(f:Value):List V->Hp->VK->Prop:=fun vs H Q=>∀pins s ρ us,Inv X pins ρ H s->Vals vs us->wpAny (model X.prog X.w) X.A (call f us) (EP X pins ρ Q) X.xe s
theorem c_W(f:Value):gm X f (cW X f):=fun pins s σ _ _ us _ I r h=>h pins s σ us I r
theorem eQ{f:Value}{r:List V->Hp->VK->Prop}{vs:List V}{Q:VK}(h:gm X f r)(q:r vs H Q):cW X f vs H Q:=fun pins s ρ us I rv=>h pins s ρ H vs us Q I rv q
theorem DH{f:Value}{vs:List V}{Q Q':VK}(h:cW X f vs H Q)(g:∀v H',Q v H'->Q' v H'):cW X f vs H Q':=fun pins s ρ us I rv=>thn (h pins s ρ us I rv) fun _ _ ⟨v,H',I',r,q⟩=>⟨v,H',I',r,g v H' q⟩
def ik(X:Cx)(f:Value)(r:SpD):Prop:=∀ds vs H M Q,RVs X.K H ds vs->RM X.K M H->r ds M Q->cW X f vs H (lift X.K H Q)
theorem kF{x:Str}{id:String}{r:SpD}{t:WA}{p:Pos}(hc:ik X (.builtin id) r)(hg:Gl X x)(hm:X.mg x=none)(hv:bootBuiltins x=some (.builtin id))(hn:x ≠ "__name__")(hdb:(x==("__debug__" : Str))=false)(hs:aw e=true)(hss:es.all aw=true)
  (ha:PAd X (e::es) t):PEd X (.Call (.Name x p) (e::es) [] pos) (ij r t):=by
 intro σ M ρ H Q rs rm h;refine bz (G7 (c_W _) hg hm hv (pa_W (e::es)) hn hdb (bh hs) (dN hss)) ?_;show tWA X (e::es) ρ H _;refine dO (ha σ M ρ H _ rs rm h) fun vs H1 zz4=>?_
 obtain⟨k1,ds,M1,r1,_,m1,q1⟩:=zz4;exact DH (hc ds vs H1 M1 Q r1 m1 q1) fun _ _=>bN k1
theorem ox{x:Str}{id:String}{r:SpD}{t:WA}{p:Pos}(hc:ik X (.type id) r)(hg:Gl X x)(hm:X.mg x=none)(hv:bootBuiltins x=some (.type id))(hn:x ≠ "__name__")(hdb:(x==("__debug__" : Str))=false)(hs:aw e=true)(hss:es.all aw=true)
  (ha:PAd X (e::es) t):PEd X (.Call (.Name x p) (e::es) [] pos) (ij r t):=by
 intro σ M ρ H Q rs rm h;refine bz (Fy (c_W _) hg hm hv (pa_W (e::es)) hn hdb (bh hs) (dN hss)) ?_;show tWA X (e::es) ρ H _;refine dO (ha σ M ρ H _ rs rm h) fun vs H1 zz5=>?_
 obtain⟨k1,ds,M1,r1,_,m1,q1⟩:=zz5;exact DH (hc ds vs H1 M1 Q r1 m1 q1) fun _ _=>bN k1
theorem rvs1{K:PySem.W.Frag}{d:D}{vs:List V}(r:RVs K H [d] vs):∃v,vs=[v]/\RV K H d v:=by
 rw[RVs] at r;obtain⟨v,vs',rfl,r1,r2⟩:=r;rw[RVs] at r2;subst r2;exact⟨v,rfl,r1⟩
theorem rvs2{K:PySem.W.Frag}{d d':D}{vs:List V}(r:RVs K H [d,d'] vs):∃v v',vs=[v,v']/\RV K H d v/\RV K H d' v':=by
 rw[RVs] at r;obtain⟨v,vs',rfl,r1,r2⟩:=r;obtain⟨v',rfl,r3⟩:=rvs1 r2;exact⟨v,v',rfl,r1,r3⟩
def dLen:SpD:=fun ds M Q=>match ds with
 |[.str z]=>z.length<=sizeLine/\Q (.int z.length) M
 |[.tup xs]=>Q (.int xs.length) M
 |[.ref a]=>match M a with
  |some (.lst xs)=>Q (.int xs.length) M
  |some (.rol xs)=>Q (.int xs.length) M
  |some (.dic kvs)=>Q (.int kvs.length) M
  |some (.rod kvs)=>Q (.int kvs.length) M
  |_=>False
 |_=>False
theorem F3:gm X (.builtin "len") (fun xs H Q=>∃a kvs,xs=[V.ref a]/\Rd H a (.dK kvs)/\Q (.int kvs.length) H):=by
 rintro pins s σ H xs us Q I r ⟨a,kvs,rfl,ha,q⟩;obtain⟨u,rfl,ru⟩:=vals1 r;cases ru;exact IE I ha fun t s' I'=>⟨.int kvs.length,H,I',⟨t,rfl⟩,q⟩
theorem LH:ik X (.builtin "len") dLen:=by
 intro ds vs H M Q r rm h;unfold dLen at h;split at h
 ·obtain⟨v,rfl,r1⟩:=rvs1 r
  cases RV.str_.1 r1;exact eQ zI ⟨_,rfl,h.1,aA (RV.int_.2 rfl) rm h.2⟩
 ·obtain⟨v,rfl,r1⟩:=rvs1 r
  obtain⟨a,us,rfl,sq,rr⟩:=RV.tup_.1 r1;exact eQ lX ⟨a,us,rfl,.inr sq,aA (RV.int_.2 (by rw[rr.len])) rm h⟩
 ·obtain⟨v,rfl,r1⟩:=rvs1 r
  cases RV.ref_.1 r1;split at h
  ·rename_i xs e1
   obtain⟨us,sq,rr⟩:=rm _ _ e1;exact eQ lX ⟨_,us,rfl,.inl (SqL.of sq),aA (RV.int_.2 (by rw[rr.len])) rm h⟩
  ·rename_i xs e1
   obtain⟨us,sq,rr⟩:=rm _ _ e1;exact eQ lX ⟨_,us,rfl,.inl (.inl sq),aA (RV.int_.2 (by rw[rr.len])) rm h⟩
  ·rename_i kvs e1
   obtain⟨kws,q1,q2,rr⟩:=rm _ _ e1;exact eQ FH ⟨_,kws,rfl,q1,aA (RV.int_.2 (by have:=congrArg List.length q2;simp only[List.length_map] at this;rw[this])) rm h⟩
  ·rename_i kvs e1
   obtain⟨u0,kws,q1,q2,rr⟩:=rm _ _ e1;exact eQ F3 ⟨_,kws,rfl,.inr ⟨u0,q1⟩,aA (RV.int_.2 (by have:=congrArg List.length q2;simp only[List.length_map] at this;rw[this])) rm h⟩
  ·exact False.elim h
 ·exact False.elim h
def tyD(x:D)(M:MH):Option String:=match x with
 |.non=>some "NoneType"
 |.bl _=>some "bool"
 |.int _=>some "int"
 |.str _=>some "str"
 |.tup _=>some "tuple"
 |.ref a=>match M a with
  |some (.lst _)=>some "list"
  |some (.dic _)=>some "dict"
  |_=>none
 |.ty _=>none
def isT(t T:String):Bool:=t==T||(t == "bool" && T == "int")
def kinds:List String:=["NoneType", "bool", "int", "str", "tuple", "list", "dict"]
theorem F5:∀t∈kinds,∀T∈kinds,T ≠ "NoneType"->(if(Value.type t==Value.type T)=true then some true else if PySem.W.kitMeta T=true then(fastBuiltinMro t).map (·.contains (.type T)) else none)=some (isT t T):=by decide +kernel
def tysD:List D->Option (List String)
 |[]=>some []
 |.ty T::r=>(tysD r).map (T :: ·)
 |_=>none
def Ez(T:String):Bool:=kinds.contains T&&T != "NoneType"
def rq:SpD:=fun ds M Q=>match ds with
 |[x,.ty T]=>(T∈kinds/\T ≠ "NoneType")/\optD (tyD x M) fun t=>Q (.bl (isT t T)) M
 |[x,.tup ts]=>optD (tysD ts) fun Ts=>Ts.all Ez=true/\optD (tyD x M) fun t=>Q (.bl (Ts.any (isT t))) M
 |_=>False
theorem DI{K:PySem.W.Frag}:∀{ts:List D}{Ts:List String}{vs:List V},tysD ts=some Ts->RVs K H ts vs->vs=Ts.map V.ty
 |[],Ts,vs,h,r=>by cases h;rw[RVs] at r;subst r;rfl
 |.ty T::ts,Ts,vs,h,r=>by
  rw[tysD] at h;rw[RVs] at r;obtain⟨v,vs',rfl,r1,r2⟩:=r;cases q:tysD ts with
  |none=>rw[q] at h;cases h
  |some js=>rw[q] at h;cases h;rw[DI q r2,RV.ty_.1 r1];rfl
 |.non::_,_,_,h,_=>by cases h
 |.bl _::_,_,_,h,_=>by cases h
 |.int _::_,_,_,h,_=>by cases h
 |.str _::_,_,_,h,_=>by cases h
 |.tup _::_,_,_,h,_=>by cases h
 |.ref _::_,_,_,h,_=>by cases h
theorem yc{K:PySem.W.Frag}{t:String}(ht:t∈kinds):∀{Ts:List String}{us:List Value},Ts.all Ez=true->Vals (Ts.map V.ty) us->PySem.W.kitAny K (.type t) us=some (Ts.any (isT t))
 |[],_,_,r=>by cases r;rfl
 |T::Ts,_,h,r=>by
  cases r with
  |cons q1 q2=>
   rw[List.all_cons,Bool.and_eq_true] at h;cases q1;have g:=h.1;unfold Ez at g;rw[Bool.and_eq_true] at g;have k1:=FN K (F5 t ht T (by simpa using g.1) (by simpa using g.2));unfold PySem.W.kitAny;rw[k1,List.any_cons];cases isT t T with
   |true=>rfl
   |false=>exact yc ht h.2 q2
theorem zZ{x:D}{M:MH}{t:String}(h:tyD x M=some t):t∈kinds:=by
 cases x with
 |ref a=>
  have h:(match M a with
   |some (.lst _)=>some "list"
   |some (.dic _)=>some "dict"
   |_=>none)=some t:=h
  split at h<;>first | (cases h;decide) | cases h
 |ty _=>cases h
 |_=>cases h;decide
theorem Hx{s:Shared}{pins:List (Addr×Obj)}{ρ:L2.St}{M:MH}{x:D}{v:V}{v' c:Value}{t:String}{k:Bool}{Q:Value->Shared->Prop}(I:Inv X pins ρ H s)(rx:RV X.K H x v)(rm:RM X.K M H)(r:RelV v v')(h:tyD x M=some t)(e:PySem.W.kitOne X.K (.type t) c=some k)
  (hq:∀tk,Q (.bool k) { s with toks:=tk }):wpAny (model X.prog X.w) X.A (call (.builtin "isinstance") [v',c]) Q X.xe s:=by
 cases x with
 |non=>cases h;cases RV.non_.1 rx;exact iO I r .non e hq
 |bl b=>cases h;cases RV.bl_.1 rx;exact iO I r (.bl b) e hq
 |int b=>cases h;cases RV.int_.1 rx;exact iO I r (.int b) e hq
 |str b=>cases h;cases RV.str_.1 rx;exact iO I r (.str b) e hq
 |ty b=>cases h
 |tup ds=>
  cases h;obtain⟨a,xs,rfl,sq,rr⟩:=RV.tup_.1 rx;obtain⟨_,_,tp,_⟩:=I.tuple sq;cases r;obtain⟨o,h1,h2,_⟩:=tp;exact PySem.W.kia_one PySem.W.kitx_tuple I.kIn ⟨o,h1,h2⟩ e (fun z=>nomatch z) hq
 |ref a=>
  cases RV.ref_.1 rx;have h:(match M a with
   |some (.lst _)=>some "list"
   |some (.dic _)=>some "dict"
   |_=>none)=some t:=h
  split at h
  ·rename_i e1;cases h
   obtain⟨us,sq,rr⟩:=rm _ _ e1;exact iO I r (.lst sq) e hq
  ·rename_i e1;cases h
   obtain⟨us,sq,_⟩:=rm _ _ e1;exact iO I r (.dK sq) e hq
  ·cases h
theorem Hy{s:Shared}{pins:List (Addr×Obj)}{ρ:L2.St}{M:MH}{x:D}{v:V}{v':Value}{t:String}{k:Bool}{tp:Addr}{us:List Value}{Q:Value->Shared->Prop}(I:Inv X pins ρ H s)(rx:RV X.K H x v)(rm:RM X.K M H)(r:RelV v v')(h:tyD x M=some t)
  (ht:IsTup s.heap tp us.toArray) (e:PySem.W.kitAny X.K (.type t) us=some k) (hq:∀tk,Q (.bool k) { s with toks:=tk }):wpAny (model X.prog X.w) X.A (call (.builtin "isinstance") [v',.ref tp]) Q X.xe s:=by
 obtain⟨⟨oc,od,odt,osl⟩,h1,h2,n,h3⟩:=ht;obtain rfl:oc=.type "tuple":=h2;obtain rfl:odt=.seq us.toArray n:=h3;cases x with
 |non=>cases h;cases RV.non_.1 rx;cases r;exact PySem.W.kia_tup PySem.W.kitx_none I.kIn True.intro h1 e (fun z=>nomatch z) hq
 |bl b=>cases h;cases RV.bl_.1 rx;cases r;exact PySem.W.kia_tup PySem.W.kitx_bool I.kIn True.intro h1 e (fun z=>nomatch z) hq
 |int b=>cases h;cases RV.int_.1 rx;obtain⟨_,rfl⟩:=r;exact PySem.W.kia_tup PySem.W.kitx_int I.kIn True.intro h1 e (fun z=>nomatch z) hq
 |str b=>cases h;cases RV.str_.1 rx;obtain⟨_,rfl⟩:=r;exact PySem.W.kia_tup PySem.W.kitx_str I.kIn True.intro h1 e (fun z=>nomatch z) hq
 |ty b=>cases h
 |tup ds=>
  cases h;obtain⟨a,xs,rfl,sq,rr⟩:=RV.tup_.1 rx;obtain⟨_,_,⟨o,y1,y2,_⟩,_⟩:=I.tuple sq;cases r;exact PySem.W.kia_tup PySem.W.kitx_tuple I.kIn ⟨o,y1,y2⟩ h1 e (fun z=>nomatch z) hq
 |ref a=>
  cases RV.ref_.1 rx;cases r;have h:(match M a with
   |some (.lst _)=>some "list"
   |some (.dic _)=>some "dict"
   |_=>none)=some t:=h
  split at h
  ·rename_i e1;cases h
   obtain⟨us',sq,rr⟩:=rm _ _ e1;obtain⟨_,_,_,_,_,y1⟩:=I.lstM sq;exact PySem.W.kia_tup PySem.W.kitx_list I.kIn ⟨_,y1,rfl⟩ h1 e (fun z=>nomatch z) hq
  ·rename_i e1;cases h
   obtain⟨us',sq,_⟩:=rm _ _ e1;obtain⟨_,_,_,_,o,es,ep,y1,y2,_⟩:=ID I.hok sq;exact PySem.W.kia_tup PySem.W.kitx_dict I.kIn ⟨o,y1,y2.1⟩ h1 e (fun z=>nomatch z) hq
  ·cases h
theorem F8:ik X (.builtin "isinstance") rq:=by
 intro ds vs H M Q r rm h;unfold rq at h;split at h
 ·rename_i x T
  obtain⟨v,w',rfl,r1,r2⟩:=rvs2 r;cases RV.ty_.1 r2;obtain⟨t,e1,q⟩:=aT h.2;intro pins s ρ us I rv;obtain⟨u,u',rfl,q1,q2⟩:=rv.two;cases q2;exact Hx I r1 rm q1 e1 (FN X.K (F5 t (zZ e1) T h.1.1 h.1.2)) fun tk=>⟨.bl _,H,I.tok tk,rfl,aA (RV.bl_.2 rfl) rm q⟩
 ·rename_i x ts
  obtain⟨v,w',rfl,r1,r2⟩:=rvs2 r;obtain⟨Ts,e0,h⟩:=aT h;obtain⟨t,e1,q⟩:=aT h.2;obtain⟨tp,xs,rfl,sq,rr⟩:=RV.tup_.1 r2;intro pins s ρ us I rv;obtain⟨u,u',rfl,q1,q2⟩:=rv.two;cases q2;obtain⟨its,rv',ht,_⟩:=I.tuple sq;rw[DI e0 rr] at rv';exact Hy I r1 rm q1 e1 ht (yc (zZ e1) h.1 rv') fun tk=>⟨.bl _,H,I.tok tk,rfl,aA (RV.bl_.2 rfl) rm q⟩
 ·exact False.elim h
def blsD:List D->Option (List Bool)
 |[]=>some []
 |.bl b::r=>(blsD r).map (b :: ·)
 |_=>none
theorem DJ{K:PySem.W.Frag}:∀{ds:List D}{bs:List Bool}{vs:List V},blsD ds=some bs->RVs K H ds vs->vs=bs.map V.bl
 |[],bs,vs,h,r=>by rw[RVs] at r;subst r;cases h;rfl
 |.bl b::ds,bs,vs,h,r=>by
  rw[RVs] at r;obtain⟨v,vs',rfl,r1,r2⟩:=r;cases RV.bl_.1 r1;unfold blsD at h;cases q:blsD ds with
  |none=>rw[q] at h;cases h
  |some bs'=>rw[q] at h;cases h;rw[DJ q r2];rfl
def dAll(f:List Bool->Bool):SpD:=fun ds M Q=>match ds with
 |[.ref a]=>match M a with
  |some (.lst xs)=>optD (blsD xs) fun bs=>Q (.bl (f bs)) M
  |_=>False
 |_=>False
theorem LI(hc:X.calm=true):ik X (.builtin "all") (dAll fun bs=>bs.all id):=by
 intro ds vs H M Q r rm h;unfold dAll at h;split at h
 ·obtain⟨v,rfl,r1⟩:=rvs1 r
  cases RV.ref_.1 r1;split at h
  ·rename_i xs e1
   obtain⟨bs,e2,q⟩:=aT h;obtain⟨us,sq,rr⟩:=rm _ _ e1
   have:=DJ e2 rr
   subst this;exact eQ (Hh hc) ⟨_,bs,rfl,SqL.of sq,aA (RV.bl_.2 rfl) rm q⟩
  ·exact False.elim h
 ·exact False.elim h
def dII(f:Int->Int->Int):SpD:=fun ds M Q=>match ds with
 |[.int i,.int j]=>Q (.int (f i j)) M
 |_=>False
theorem LJ(hc:X.calm=true):ik X (.builtin "min") (dII fun i j=>if j<i then j else i):=by
 intro ds vs H M Q r rm h;unfold dII at h;split at h
 ·obtain⟨v,v',rfl,r1,r2⟩:=rvs2 r
  cases RV.int_.1 r1;cases RV.int_.1 r2;exact eQ (Fu hc) ⟨_,_,rfl,aA (RV.int_.2 rfl) rm h⟩
 ·exact False.elim h
def dInt:SpD:=fun ds M Q=>match ds with
 |[.int i]=>Q (.int i) M
 |[.bl k]=>Q (.int (if k then 1 else 0)) M
 |_=>False
theorem LK:ik X (.type "int") dInt:=by
 intro ds vs H M Q r rm h;unfold dInt at h;split at h
 ·obtain⟨v,rfl,r1⟩:=rvs1 r
  cases RV.int_.1 r1;exact eQ xS (.inl ⟨_,rfl,aA (RV.int_.2 rfl) rm h⟩)
 ·obtain⟨v,rfl,r1⟩:=rvs1 r
  cases RV.bl_.1 r1;exact eQ xS (.inr ⟨_,rfl,aA (RV.int_.2 rfl) rm h⟩)
 ·exact False.elim h
def uF:SpD:=fun ds M Q=>match ds with
 |[.tup xs]=>Q (.tup xs) M
 |[.ref a]=>optD (rdL (M a)) fun xs=>Q (.tup xs) M
 |_=>False
theorem Hz:ik X (.type "tuple") uF:=by
 intro ds vs H M Q r rm h;unfold uF at h;split at h
 ·obtain⟨v,rfl,r1⟩:=rvs1 r
  obtain⟨a,us,rfl,sq,rr⟩:=RV.tup_.1 r1;exact eQ oX ⟨a,us,rfl,.inr ⟨sq,aA r1 rm h⟩⟩
 ·obtain⟨v,rfl,r1⟩:=rvs1 r
  cases RV.ref_.1 r1;obtain⟨xs,e1,q⟩:=aT h;obtain⟨us,sq,rr⟩:=rm.list e1;refine eQ oX ⟨_,us,rfl,.inl ⟨sq,fun p hp=>?_⟩⟩;have k:=Kp.new (o:=.tup us) hp;exact⟨k,.tup xs,M,RV.tup_.2 ⟨p,_,rfl,SqT.of aC,RVs.mono k _ rr⟩,rm.newH hp,q⟩
 ·exact False.elim h
def uG:SpD:=fun ds M Q=>match ds with
 |[.tup xs]=>∀p,M p=none->Q (.ref p) (updM M p (.lst xs))
 |[.ref a]=>optD (rdL (M a)) fun xs=>∀p,M p=none->Q (.ref p) (updM M p (.lst xs))
 |_=>False
theorem DL:ik X (.type "list") uG:=by
 intro ds vs H M Q r rm h;unfold uG at h;split at h
 ·rename_i xs
  obtain⟨v,rfl,r1⟩:=rvs1 r;obtain⟨a,us,rfl,sq,rr⟩:=RV.tup_.1 r1;refine eQ qb ⟨a,us,rfl,.inr sq,fun p hp=>?_⟩;have k:=Kp.new (o:=.lst us) hp;exact⟨k,.ref p,_,RV.ref_.2 rfl,rm.new (m:=.lst xs) hp ⟨us,aC,RVs.mono k _ rr⟩,h p (rm.fresh hp)⟩
 ·obtain⟨v,rfl,r1⟩:=rvs1 r
  cases RV.ref_.1 r1;obtain⟨xs,e1,q⟩:=aT h;obtain⟨us,sq,rr⟩:=rm.list e1;refine eQ qb ⟨_,us,rfl,.inl sq,fun p hp=>?_⟩;have k:=Kp.new (o:=.lst us) hp;exact⟨k,.ref p,_,RV.ref_.2 rfl,rm.new (m:=.lst xs) hp ⟨us,aC,RVs.mono k _ rr⟩,q p (rm.fresh hp)⟩
 ·exact False.elim h
inductive Bi where
 |len | isinst | all | min | tuple
 deriving DecidableEq
def dBi:Bi->SpD
 |.len=>dLen
 |.isinst=>rq
 |.all=>dAll fun bs=>bs.all id
 |.min=>dII fun i j=>if j<i then j else i
 |.tuple=>uF
def uH:Bi->Str
 |.len=>"len"
 |.isinst=>"isinstance"
 |.all=>"all"
 |.min=>"min"
 |.tuple=>"tuple"
theorem LL(b:Bi)(hc:X.calm=true){t:WA}{p:Pos}(hg:Gl X (uH b))(hm:X.mg (uH b)=none)(hs:aw e=true)(hss:es.all aw=true)(ha:PAd X (e::es) t):PEd X (.Call (.Name (uH b) p) (e::es) [] pos) (ij (dBi b) t):=by
 cases b with
 |len=>exact kF LH hg hm PySem.boot_len (by decide) (by decide) hs hss ha
 |isinst=>exact kF F8 hg hm PyProof.Rows.boot_isinstance (by decide) (by decide) hs hss ha
 |all=>exact kF (LI hc) hg hm (by decide +kernel) (by decide) (by decide) hs hss ha
 |min=>exact kF (LJ hc) hg hm PyProof.Rows.boot_min (by decide) (by decide) hs hss ha
 |tuple=>exact ox Hz hg hm (by decide +kernel) (by decide) (by decide) hs hss ha
end
end DD
namespace DD
open PySem PySem.Spec PyProof.Rows L2
section
variable {X : Cx} {H : Hp} {e a b c o : Expr} {es : List Expr} {pos : Pos}
def bB:Expr->Bool
 |.Call (.Name _ _) [] [] _=>false
 |_=>true
theorem rz{env:Env}{f:Str}{w:Sem Value}(h:bB o=true):attributeBase o f env w=w:=by
 unfold attributeBase;split
 ·exact absurd (show false=true from h) Bool.false_ne_true
 ·rfl
theorem tP{env:Env}{p:Pos}:∀{es:List Expr},es.all aw=true->(backTo p (starEach es env)).all (fun x=>!x.1)=true
 |[],_=>rfl
 |e::es,h=>by
  rw[List.all_cons,Bool.and_eq_true] at h;rw[bh h.1];show(true&&(backTo p (starEach es env)).all (fun x=>!x.1))=true;rw[tP h.2];rfl
def mW(X:Cx)(id:String):V->List V->Hp->VK->Prop:=fun x xs H Q=>∀pins s ρ v us,Inv X pins ρ H s->RelV x v->Vals xs us->wpAny (model X.prog X.w) X.A (call (.builtin id) (v::us)) (EP X pins ρ Q) X.xe s
theorem m_W(id:String):MtR X id (mW X id):=fun pins s σ _ _ _ v us _ I r rv h=>h pins s σ v us I r rv
theorem uI{id:String}{r:V->List V->Hp->VK->Prop}{x:V}{xs:List V}{Q:VK}(h:MtR X id r)(q:r x xs H Q):mW X id x xs H Q:=fun pins s ρ v us I rx rv=>h pins s ρ H x xs v us Q I rx rv q
theorem DM{id:String}{x:V}{xs:List V}{Q Q':VK}(h:mW X id x xs H Q)(g:∀v H',Q v H'->Q' v H'):mW X id x xs H Q':=fun pins s ρ v us I rx rv=>thn (h pins s ρ v us I rx rv) fun _ _ ⟨v,H',I',r,q⟩=>⟨v,H',I',r,g v H' q⟩
abbrev SpM:=D->List D->MH->DK->Prop
def MtD(X:Cx)(id:String)(r:SpM):Prop:=∀x ds v vs H M Q,RV X.K H x v->RVs X.K H ds vs->RM X.K M H->r x ds M Q->mW X id v vs H (lift X.K H Q)
inductive Rc where
 |str | lst | dic | int
def EA:Rc->D->MH->Prop
 |.str,.str _,_=>True
 |.int,.int _,_=>True
 |.lst,.ref a,M=>(rdL (M a)).isSome=true
 |.dic,.ref a,M=>match M a with
  |some (.dic _)=>True
  |_=>False
 |_,_,_=>False
def rcT:Rc->String
 |.str=>"str"
 |.lst=>"list"
 |.dic=>"dict"
 |.int=>"int"
theorem DN{K:PySem.W.Frag}{M:MH}{c:Rc}{x:D}{v:V}(r:RV K H x v)(m:RM K M H)(h:EA c x M):tyV K (rcT c) v H:=by
 cases c with
 |int=>cases x with
  |int z=>cases RV.int_.1 r;rfl
  |_=>exact False.elim h
 |str=>cases x with
  |str z=>cases RV.str_.1 r;rfl
  |_=>exact False.elim h
 |lst=>cases x with
  |ref a=>
   cases RV.ref_.1 r;obtain⟨ds,e⟩:=Option.isSome_iff_exists.mp h;obtain⟨vs,sq,_⟩:=m.list e;exact .inl ⟨rfl,vs,sq⟩
  |_=>exact False.elim h
 |dic=>cases x with
  |ref a=>
   cases RV.ref_.1 r;have h:match M a with
    |some (.dic _)=>True
    |_=>False:=h
   split at h
   ·rename_i e
    obtain⟨kws,q,_⟩:=m a _ e;exact .inr (.inr (.inl ⟨rfl,.inl ⟨kws,q⟩⟩))
   ·exact False.elim h
  |_=>exact False.elim h
def wMt(c:Rc)(r:SpM)(to:WE)(t:WA):WE:=fun σ M Q=>to σ M fun x M1=>EA c x M1/\t σ M1 fun ds M2=>r x ds M2 Q
theorem uJ{c:Rc}{name:Str}{id:String}{r:SpM}{to:WE}{t:WA}{apos:Pos}(pa:PlainAttrs (rcT c))(slot:Slot (rcT c) name id)(hty:typeOf (.builtin id)=pure (.type "method_descriptor"))(hm:MtD X id r)(ho:PEd X o to)(ha:PAd X (e::es) t)
  (hb:bB o=true) (hs:aw e=true) (hss:es.all aw=true) (hl:es.length<20) (hline:(apos.endLine==pos.line)=true):PEd X (.Call (.Attribute o name apos) (e::es) [] pos) (wMt c r to t):=by
 intro σ M ρ H Q rs rm h;refine bz (ME pa slot hty (m_W id) (pe_W o) (pa_W (e::es)) (rz hb) ?_ hline (bh hs) (dN hss)) ?_
 ·rw[tP (es:=e::es) (by rw[List.all_cons,hs,hss];rfl)]
  show(true&&true&&decide ((e::es).length+0+0<30))=true;rw[Bool.and_self,Bool.true_and];exact decide_eq_true (by rw[List.length_cons];omega)
 ·show tW X o ρ H _
  refine aK (ho σ M ρ H _ rs rm h) fun v H1 zz1=>?_
  obtain⟨k1,x,M1,r1,m1,q1⟩:=zz1;refine⟨DN r1 m1 q1.1,?_⟩;show tWA X (e::es) ρ H1 _;refine dO (ha σ M1 ρ H1 _ (rs.mono k1) m1 q1.2) fun vs H2 zz2=>?_
  obtain⟨k2,ds,M2,r2,_,m2,q2⟩:=zz2;exact DM (hm x ds v vs H2 M2 Q (RV.mono k2 x r1) r2 m2 q2) fun _ _=>bN (k1.trans k2)
theorem rA{c:Rc}{name:Str}{id:String}{r:SpM}{to:WE}{apos:Pos}(pa:PlainAttrs (rcT c))(slot:Slot (rcT c) name id)(hty:typeOf (.builtin id)=pure (.type "method_descriptor"))(hm:MtD X id r)(ho:PEd X o to)
  (hb:bB o=true) (hline:(apos.endLine==pos.line)=true):PEd X (.Call (.Attribute o name apos) [] [] pos) (wMt c r to wNil):=by
 intro σ M ρ H Q rs rm h;refine bz (Ll pa slot hty (m_W id) (pe_W o) (rz hb) hline) ?_;show tW X o ρ H _;refine aK (ho σ M ρ H _ rs rm h) fun v H1 zz3=>?_
 obtain⟨k1,x,M1,r1,m1,q1⟩:=zz3;refine⟨DN r1 m1 q1.1,?_⟩;exact DM (hm x [] v [] H1 M1 Q r1 RVs.nil m1 q1.2) fun _ _=>bN k1
def rB:SpM:=fun x ds M Q=>match x,ds with
 |.ref a,[d]=>match M a with
  |some (.lst xs)=>xs.length<sizeLine/\Q .non (updM M a (.lst (xs++[d])))
  |_=>False
 |_,_=>False
theorem yd:MtD X "list.append" rB:=by
 intro x ds v vs H M Q rx r rm h;unfold rB at h;split at h
 ·rename_i a d
  obtain⟨w',rfl,r1⟩:=rvs1 r;cases RV.ref_.1 rx;split at h
  ·rename_i xs e1
   obtain⟨us,sq,rr⟩:=rm _ _ e1;have k:=Kp.put (o':=.lst (us++[w'])) sq trivial;exact uI FB ⟨a,us,w',rfl,rfl,sq,by rw[←rr.len];exact h.1,k,.non,_,RV.non_.2 rfl,rm.put (m:=.lst (xs++[d])) sq trivial ⟨_,aC,RVs.of (bd (RVs.mono k _ rr).p (.cons (RV.mono k _ r1) .nil))⟩,h.2⟩
  ·exact False.elim h
 ·exact False.elim h
def rC:SpM:=fun x ds M Q=>match x,ds with
 |.ref a,[.ref b]=>match M a,M b with
  |some (.lst xs),some (.lst ys)=>xs.length+ys.length<=sizeLine/\Q .non (updM M a (.lst (xs++ys)))
  |_,_=>False
 |_,_=>False
theorem ye:MtD X "list.extend" rC:=by
 intro x ds v vs H M Q rx r rm h;unfold rC at h;split at h
 ·rename_i a b
  obtain⟨w',rfl,r1⟩:=rvs1 r;cases RV.ref_.1 rx;cases RV.ref_.1 r1;split at h
  ·rename_i xs ys e1 e2
   obtain⟨us,sq,rr⟩:=rm _ _ e1;obtain⟨us',sq',rr'⟩:=rm _ _ e2;have k:=Kp.put (o':=.lst (us++us')) sq trivial;exact uI FC ⟨a,b,us,us',rfl,rfl,sq,sq',by rw[←rr.len,←rr'.len];exact h.1,k,.non,_,RV.non_.2 rfl,rm.put (m:=.lst (xs++ys)) sq trivial ⟨_,aC,RVs.of (bd (RVs.mono k _ rr).p (RVs.mono k _ rr').p)⟩,h.2⟩
  ·exact False.elim h
 ·exact False.elim h
theorem z0{α β:Type}{F:α->β->Prop}:∀{l:List α}{m:List β}(i:Nat),Paired F l m->Paired F (l.eraseIdx i) (m.eraseIdx i)
 |_,_,_,.nil=>.nil
 |_,_,0,.cons _ t=>t
 |_,_,i+1,.cons q t=>.cons q (z0 i t)
theorem Cd{α β:Type}{F:α->β->Prop}{l:List α}{m:List β}(h:Paired F l m):Paired F l.dropLast m.dropLast:=by
 rw[List.dropLast_eq_take,List.dropLast_eq_take,←kB h];exact rf _ h
def dPop:SpM:=fun x ds M Q=>match x,ds with
 |.ref a,[.int i]=>match M a with
  |some (.lst xs)=>(0<=i/\i<1000000)/\optD xs[i.toNat]? fun d=>Q d (updM M a (.lst (xs.eraseIdx i.toNat)))
  |_=>False
 |.ref a,[]=>match M a with
  |some (.lst xs)=>optD xs[xs.length-1]? fun d=>Q d (updM M a (.lst xs.dropLast))
  |_=>False
 |_,_=>False
theorem F9:MtD X "list.pop" dPop:=by
 intro x ds v vs H M Q rx r rm h;unfold dPop at h;split at h
 ·rename_i a i
  obtain⟨w',rfl,r1⟩:=rvs1 r;cases RV.ref_.1 rx;cases RV.int_.1 r1;split at h
  ·rename_i xs e1
   obtain⟨us,sq,rr⟩:=rm _ _ e1;obtain⟨d,ed,q⟩:=aT h.2;obtain⟨u,eu,ru⟩:=d5 rr.p ed;have k:=Kp.put (o':=.lst (us.eraseIdx i.toNat)) sq trivial;have hlt:i.toNat<us.length:=(List.getElem?_eq_some_iff.1 eu).1;have hsi:seqIndex? i us.length=some i.toNat:=by
    unfold seqIndex?;have h1:¬i<0:=by omega
    have h2:i<(us.length:Int):=by omega
    simp[h1,h.1.1,h2]
   exact uI Hd ⟨a,us,i,i.toNat,u,rfl,rfl,sq,by omega,by omega,hsi,eu,k,d,_,RV.mono k _ ru,rm.put (m:=.lst (xs.eraseIdx i.toNat)) sq trivial ⟨_,aC,RVs.of (z0 _ (RVs.mono k _ rr).p)⟩,q⟩
  ·exact False.elim h
 ·rename_i a
  obtain rfl:vs=[]:=by rw[RVs] at r;exact r
  cases RV.ref_.1 rx;split at h
  ·rename_i xs e1
   obtain⟨us,sq,rr⟩:=rm _ _ e1;obtain⟨d,ed,q⟩:=aT h;obtain⟨u,eu,ru⟩:=d5 rr.p ed;have k:=Kp.put (o':=.lst us.dropLast) sq trivial;exact uI Lm ⟨a,us,u,rfl,rfl,sq,by rw[←rr.len];exact eu,k,d,_,RV.mono k _ ru,rm.put (m:=.lst xs.dropLast) sq trivial ⟨_,aC,RVs.of (Cd (RVs.mono k _ rr).p)⟩,q⟩
  ·exact False.elim h
 ·exact False.elim h
def dP(i:Int):Nat:=Builtin.Int.intBits i
def zv:SpM:=fun x ds M Q=>match x,ds with
 |.int i,[]=>Q (.int (dP i)) M
 |_,_=>False
theorem J3:MtR X "int.bit_length" (fun x xs H Q=>∃i,x=.int i/\xs=[]/\Q (.int (dP i)) H):=by
 rintro pins s σ H x xs v us Q I rx rv ⟨i,rfl,rfl,q⟩;obtain⟨t,rfl⟩:=rx;have hus:=rv.zero;subst hus;exact call_int_bit_length ⟨.int (dP i),H,I.tok _,⟨_,rfl⟩,q⟩
theorem DO:MtD X "int.bit_length" zv:=by
 intro x ds v vs H M Q rx r rm h;unfold zv at h;split at h
 ·rename_i i
  obtain rfl:vs=[]:=by rw[RVs] at r;exact r
  cases RV.int_.1 rx;exact uI J3 ⟨i,rfl,rfl,aA (RV.int_.2 rfl) rm h⟩
 ·exact False.elim h
def LM:SpM:=fun x ds M Q=>match x,ds with
 |.ref a,[y]=>optD (rdL (M a)) fun xs=>(aP y=true/\aW xs=true/\bQ xs<=30)/\optD (xs.findIdx? fun d=>eqD d y) fun(j:Nat)=>Q (.int (j:Int)) M
 |_,_=>False
inductive Mt where
 |append | extend | pop | bits
 deriving DecidableEq
def uK:Mt->Str
 |.append=>"append"
 |.extend=>"extend"
 |.pop=>"pop"
 |.bits=>"bit_length"
def mtRc:Mt->Rc
 |.append=>.lst
 |.extend=>.lst
 |.pop=>.lst
 |.bits=>.int
def dMt:Mt->SpM
 |.append=>rB
 |.extend=>rC
 |.pop=>dPop
 |.bits=>zv
theorem J4(hu:X.A.units+40<cLine)(m:Mt){to:WE}{t:WA}{apos:Pos}(ho:PEd X o to)(ha:PAd X (e::es) t)(hb:bB o=true)(hs:aw e=true)(hss:es.all aw=true)(hl:es.length<20)(hline:(apos.endLine==pos.line)=true):
  PEd X (.Call (.Attribute o (uK m) apos) (e::es) [] pos) (wMt (mtRc m) (dMt m) to t):=by
 cases m with
 |append=>exact uJ (c:=.lst) PySem.F.plainAttrs_list PySem.F.slot_list_append PySem.F.type_list_append yd ho ha hb hs hss hl hline
 |extend=>exact uJ (c:=.lst) PySem.F.plainAttrs_list PySem.F.slot_list_extend PySem.F.type_list_extend ye ho ha hb hs hss hl hline
 |pop=>exact uJ (c:=.lst) PySem.F.plainAttrs_list PySem.F.slot_list_pop PySem.F.type_list_pop F9 ho ha hb hs hss hl hline
 |bits=>exact uJ (c:=.int) PySem.F.plainAttrs_int PySem.F.slot_int_bit_length PySem.F.type_int_bit_length DO ho ha hb hs hss hl hline
theorem HA(hu:X.A.units+40<cLine)(m:Mt){to:WE}{apos:Pos}(ho:PEd X o to)(hb:bB o=true)(hline:(apos.endLine==pos.line)=true):
  PEd X (.Call (.Attribute o (uK m) apos) [] [] pos) (wMt (mtRc m) (dMt m) to wNil):=by
 cases m with
 |append=>exact rA (c:=.lst) PySem.F.plainAttrs_list PySem.F.slot_list_append PySem.F.type_list_append yd ho hb hline
 |extend=>exact rA (c:=.lst) PySem.F.plainAttrs_list PySem.F.slot_list_extend PySem.F.type_list_extend ye ho hb hline
 |pop=>exact rA (c:=.lst) PySem.F.plainAttrs_list PySem.F.slot_list_pop PySem.F.type_list_pop F9 ho hb hline
 |bits=>exact rA (c:=.int) PySem.F.plainAttrs_int PySem.F.slot_int_bit_length PySem.F.type_int_bit_length DO ho hb hline
end
end DD
namespace DD
open PySem PySem.Spec PyProof.Rows L2
section
variable {X : Cx} {H : Hp} {e a b c o i v : Expr} {es : List Expr} {pos : Pos}
def wNeg(t:WE):WE:=fun σ M Q=>t σ M fun x M1=>intD x fun i=>Q (.int (-i)) M1
theorem J5{t:WE}(h:PEd X a t):PEd X (.UnaryOp .USub a pos) (wNeg t):=by
 intro σ M ρ H Q rs rm q;refine bz (IA K8 (pe_W a)) ?_;show tW X a ρ H _;refine aK (h σ M ρ H _ rs rm q) fun v H1 zz1=>?_
 obtain⟨k1,x,M1,r1,m1,q1⟩:=zz1;obtain⟨i,rfl,q1⟩:=rp q1;exact⟨i,RV.int_.1 r1,k1,.int (-i),M1,RV.int_.2 rfl,m1,q1⟩
def wInv(t:WE):WE:=fun σ M Q=>t σ M fun x M1=>intD x fun i=>Q (.int (-i-1)) M1
theorem bitNot_eq(i:Int):Builtin.bitNot i = -i-1:=by unfold Builtin.bitNot;omega
theorem J6{t:WE}(h:PEd X a t):PEd X (.UnaryOp .Invert a pos) (wInv t):=by
 intro σ M ρ H Q rs rm q;refine bz (IA K9 (pe_W a)) ?_;show tW X a ρ H _;refine aK (h σ M ρ H _ rs rm q) fun v H1 zz2=>?_
 obtain⟨k1,x,M1,r1,m1,q1⟩:=zz2;obtain⟨i,rfl,q1⟩:=rp q1;exact⟨i,RV.int_.1 r1,k1,.int (-i-1),M1,RV.int_.2 (congrArg V.int (bitNot_eq i)),m1,q1⟩
def putD(kvs:List (Key×D))(k:Key)(d:D):List (Key×D):=if(kvs.any fun kv=>decide (kv.1=k))=true then kvs.map (fun kv=>if kv.1=k then(kv.1,d) else kv) else kvs++[(k,d)]
theorem HB{α β:Type}{l:List (Key×α)}{m:List (Key×β)}(e:m.map (·.1)=l.map (·.1))(k:Key):(m.any fun kv=>decide (kv.1=k))=l.any fun kv=>decide (kv.1=k):=by
 have f:∀{γ:Type}(l:List (Key×γ)),(l.any fun kv=>decide (kv.1=k))=(l.map (·.1)).any fun q=>decide (q=k):=fun l=>by rw[List.any_map];rfl
 rw[f,f,e]
theorem map_put{K:PySem.W.Frag}{k:Key}{d:D}{v:V}(r:RV K H d v):∀{l:List (Key×D)}{m:List (Key×V)},m.map (·.1)=l.map (·.1)->RVs K H (l.map (·.2)) (m.map (·.2)) ->
  ((m.map fun kv=>if kv.1=k then(kv.1,v) else kv).map (·.1)=(l.map fun kv=>if kv.1=k then(kv.1,d) else kv).map (·.1))/\RVs K H ((l.map fun kv=>if kv.1=k then(kv.1,d) else kv).map (·.2)) ((m.map fun kv=>if kv.1=k then(kv.1,v) else kv).map (·.2))
 |[],[],_,_=>⟨rfl,.nil⟩
 |[],_::_,e,_=>by cases e
 |_::_,[],e,_=>by cases e
 |(k1,d1)::l,(k2,v2)::m,e,rr=>by
  simp only[List.map_cons,List.cons.injEq] at e;obtain⟨e1,e2⟩:=e;subst e1;simp only[List.map_cons] at rr;rw[RVs] at rr;obtain⟨v',vs',z,r1,r2⟩:=rr;cases z;obtain⟨q1,q2⟩:=map_put r (k:=k) e2 r2;by_cases q:k2=k
  ·simp only[List.map_cons,if_pos q]
   exact⟨by rw[q1],.cons r q2⟩
  ·simp only[List.map_cons,if_neg q]
   exact⟨by rw[q1],.cons r1 q2⟩
theorem LN{K:PySem.W.Frag}{k:Key}{d:D}{v:V}{l:List (Key×D)}{m:List (Key×V)}(r:RV K H d v)(e:m.map (·.1)=l.map (·.1))(rr:RVs K H (l.map (·.2)) (m.map (·.2))):(putK m k v).map (·.1)=(putD l k d).map (·.1)/\RVs K H ((putD l k d).map (·.2)) ((putK m k v).map (·.2)):=by
 unfold putK putD;rw[HB e k];split
 ·exact map_put r e rr
 ·refine⟨by rw[List.map_append,List.map_append,e];rfl,?_⟩
  rw[List.map_append,List.map_append];exact RVs.of (bd rr.p (.cons r .nil))
def dPut(o i d:D)(M:MH)(Q:MH->Prop):Prop:=match o with
 |.ref a=>match M a with
  |some (.lst xs)=>intD i fun k=>optD (ixN xs.length k) fun j=>Q (updM M a (.lst (xs.set j d)))
  |some (.dic kvs)=>optD (keyD i) fun k=>kvs.length<sizeLine/\Q (updM M a (.dic (putD kvs k d)))
  |_=>False
 |_=>False
def pW(X:Cx):TSet:=fun o i v H Q=>∀pins s ρ ov iv u,Inv X pins ρ H s->RelV o ov->RelV i iv->RelV v u->wpAny (model X.prog X.w) X.A (setItem ov iv u) (fun _ s'=>∃H',Inv X pins ρ H' s'/\Q H') X.xe s
theorem p_W:PSet X (pW X):=fun pins s σ _ _ _ _ ov iv u _ I r1 r2 r3 h=>h pins s σ ov iv u I r1 r2 r3
theorem J7{o i v:V}{Q Q':Hp->Prop}(h:pW X o i v H Q)(g:∀H',Q H'->Q' H'):pW X o i v H Q':=fun pins s ρ ov iv u I r1 r2 r3=>thn (h pins s ρ ov iv u I r1 r2 r3) fun _ _ ⟨H',I',q⟩=>⟨H',I',g H' q⟩
theorem putd(hu:X.A.units+40<cLine){x y d:D}{o i v:V}{M:MH}{Q:MH->Prop}(rx:RV X.K H x o)(ry:RV X.K H y i)(rd:RV X.K H d v)(rm:RM X.K M H)(h:dPut x y d M Q):pW X o i v H fun H'=>Kp H H'/\∃M',RM X.K M' H'/\Q M':=by
 cases x with
 |ref a=>
  cases RV.ref_.1 rx;have h:match M a with
   |some (.lst xs)=>intD y fun k=>optD (ixN xs.length k) fun j=>Q (updM M a (.lst (xs.set j d)))
   |some (.dic kvs)=>optD (keyD y) fun k=>kvs.length<sizeLine/\Q (updM M a (.dic (putD kvs k d)))
   |_=>False:=h
  split at h
  ·rename_i xs e1
   obtain⟨k,rfl,h⟩:=rp h;obtain⟨j,e2,q⟩:=aT h;cases RV.int_.1 ry;obtain⟨us,sq,rr⟩:=rm _ _ e1;have kk:=Kp.put (o':=.lst (us.set j v)) sq trivial;intro pins s ρ ov iv u I r1 r2 r3;exact set_list pins s ρ H _ _ _ ov iv u _ I r1 r2 r3 ⟨a,us,k,j,rfl,rfl,sq,by rw[←rr.len];exact e2,kk,_,rm.put (m:=.lst (xs.set j d)) sq trivial ⟨_,aC,RVs.of (zL (RV.mono kk _ rd) j (RVs.mono kk _ rr).p)⟩,q⟩
  ·rename_i kvs e1
   obtain⟨k,e2,hl,q⟩:=aT h
   have:=DF e2 ry
   subst this;obtain⟨kws,sq,ek,rr⟩:=rm _ _ e1;have kk:=Kp.put (o':=.dK (putK kws k v)) sq trivial;obtain⟨p1,p2⟩:=LN (k:=k) (RV.mono kk _ rd) ek (RVs.mono kk _ rr);have hlen:kws.length<sizeLine:=by have:=congrArg List.length ek;simp only[List.length_map] at this;omega
   intro pins s ρ ov iv u I r1 r2 r3;cases r1;exact FE (by omega) I (.inl ⟨kws,k,sq,rfl,hlen,rfl⟩) r2 r3 fun s' I'=>⟨_,I',kk,_,rm.put (m:=.dic (putD kvs k d)) sq trivial ⟨_,aC,p1,p2⟩,q⟩
  ·exact False.elim h
 |_=>exact False.elim h
theorem sole{tg:Expr}{n:Nat}{env:Env}(h:eG v=true):swapsWithSole [tg] v n env=pure false:=ux h
def z5(tv to ti:WE):WS:=fun E σ M=>tv σ M fun d M1=>to σ M1 fun x M2=>ti σ M2 fun y M3=>dPut x y d M3 fun M4=>E.nx σ M4
theorem Ga{tv to ti:WE}{p:Pos}(hu:X.A.units+40<cLine)(hv:PEd X v tv)(ho:PEd X o to)(hi:PEd X i ti)(hc:eG v=true)(hs:l5 i=true):PSd X (.Assign [.Subscript o i p] v pos) (z5 tv to ti):=by
 intro σ M ρ H E rs rm h;refine fM (Fq (pe_W v) (KR (pe_W o) (pe_W i) p_W (by intro w;cases i<;>first | rfl | exact absurd (show false=true from hs) Bool.false_ne_true)) (sole hc) (by cases v<;>rfl) rfl) ?_;show tW X v ρ H _;refine aK (hv σ M ρ H _ rs rm h) fun u H1 zz3=>?_
 obtain⟨k1,d,M1,r1,m1,q1⟩:=zz3;show tW X o ρ H1 _;refine aK (ho σ M1 ρ H1 _ (rs.mono k1) m1 q1) fun w' H2 zz4=>?_
 obtain⟨k2,x,M2,r2,m2,q2⟩:=zz4;show tW X i ρ H2 _;refine aK (hi σ M2 ρ H2 _ (rs.mono (k1.trans k2)) m2 q2) fun z H3 zz5=>?_
 obtain⟨k3,y,M3,r3,m3,q3⟩:=zz5;refine J7 (putd hu (RV.mono k3 x r2) r3 (RV.mono (k2.trans k3) d r1) m3 q3) fun H4 zz6=>?_
 obtain⟨k4,M4,m4,q4⟩:=zz6;exact⟨k1.trans (k2.trans (k3.trans k4)),σ,M4,rs.mono (k1.trans (k2.trans (k3.trans k4))),m4,q4⟩
abbrev WP:=DS->MH->(List (D×D)->MH->Prop)->Prop
def wPs:List (WE×WE)->WP
 |[],_,M,Q=>Q [] M
 |(tk,tv)::r,σ,M,Q=>tk σ M fun x M1=>tv σ M1 fun y M2=>wPs r σ M2 fun ps M3=>Q ((x,y)::ps) M3
inductive PPd (X:Cx):List (Option Expr)->List Expr->List (WE×WE)->Prop where
 |nil:PPd X [] [] []
 |cons {k v:Expr}{ks:List (Option Expr)}{vs:List Expr}{tk tv:WE}{r:List (WE×WE)}:PEd X k tk->PEd X v tv->PPd X ks vs r->PPd X (some k::ks) (v::vs) ((tk,tv)::r)
def IH:List (D×D)->Option (List (Key×D))
 |[]=>some []
 |(k,d)::r=>(keyD k).bind fun q=>(IH r).map ((q,d) :: ·)
def LO(kvs:List (Key×D))(more:List (Key×D)):List (Key×D):=more.foldl (fun acc kv=>putD acc kv.1 kv.2) kvs
def ML(ts:List (WE×WE)):WE:=fun σ M Q=>∀p,M p=none->wPs ts σ (updM M p (.dic [])) fun ds M2=>match M2 p with
 |some (.dic [])=>optD (IH ds) fun kvs=>Q (.ref p) (updM M2 p (.dic (LO [] kvs)))
 |_=>False
theorem HC:PEd X (.Dict [] [] pos) (fun _ M Q=>∀p,M p=none->Q (.ref p) (updM M p (.dic []))):=by
 intro σ M ρ H Q rs rm q;refine bz Hf ?_;intro p hp;exact⟨Kp.new hp,.ref p,_,RV.ref_.2 rfl,rm.new (m:=.dic []) hp ⟨[],aC,rfl,.nil⟩,q p (rm.fresh hp)⟩
end
end DD
namespace DD
open PySem PySem.Spec PyProof.Rows L2
abbrev OK0:=Addr->Str->Prop
theorem j4{K:PySem.W.Frag}{H:Hp}{f:Str}:∀{fs:List (Str×D)}{gs:List (Str×V)},gs.map (·.1)=fs.map (·.1)->RVs K H (fs.map (·.2)) (gs.map (·.2)) ->
  (fs.lookup f=none->gs.lookup f=none)/\∀d,fs.lookup f=some d->∃v,gs.lookup f=some v/\RV K H d v
 |[],[],_,_=>⟨fun _=>rfl,fun _ h=>nomatch h⟩
 |[],_::_,e,_=>by cases e
 |_::_,[],e,_=>by cases e
 |(k1,d1)::fs,(k2,v2)::gs,e,r=>by
  simp only[List.map_cons,List.cons.injEq] at e;obtain⟨e1,e2⟩:=e;subst e1;simp only[List.map_cons] at r;rw[RVs] at r;obtain⟨v,vs,z,r1,r2⟩:=r;cases z;obtain⟨h1,h2⟩:=j4 (f:=f) e2 r2;cases q:f==k2 with
  |true=>simp only[List.lookup_cons,q];exact⟨(fun z=>nomatch z),fun d z=>by cases z;exact⟨v2,rfl,r1⟩⟩
  |false=>simp only[List.lookup_cons,q];exact⟨h1,h2⟩
def cq(f:Str)(v:D):List (Str×D)->List (Str×D)
 |[]=>[(f,v)]
 |(g,x)::r=>if g=f then(g,v)::r else(g,x)::cq f v r
theorem DP{K:PySem.W.Frag}{H:Hp}{f:Str}{d:D}{v:V}(rv:RV K H d v):∀{fs:List (Str×D)}{gs:List (Str×V)},gs.map (·.1)=fs.map (·.1)->RVs K H (fs.map (·.2)) (gs.map (·.2)) ->
  (putF f v gs).map (·.1)=(cq f d fs).map (·.1)/\RVs K H ((cq f d fs).map (·.2)) ((putF f v gs).map (·.2))
 |[],[],_,_=>⟨rfl,.cons rv .nil⟩
 |[],_::_,e,_=>by cases e
 |_::_,[],e,_=>by cases e
 |(k1,d1)::fs,(k2,v2)::gs,e,r=>by
  simp only[List.map_cons,List.cons.injEq] at e;obtain⟨e1,e2⟩:=e;subst e1;simp only[List.map_cons] at r;rw[RVs] at r;obtain⟨w',vs,z,r1,r2⟩:=r;cases z;obtain⟨h1,h2⟩:=DP (f:=f) rv e2 r2;unfold putF cq;by_cases q:k2=f
  ·rw[if_pos q,if_pos q];exact⟨by simp only[List.map_cons,e2],.cons rv r2⟩
  ·rw[if_neg q,if_neg q];exact⟨by simp only[List.map_cons,h1],.cons r1 h2⟩
section
variable {X : Cx} {H : Hp} {e a b c o i v : Expr} {es : List Expr} {pos : Pos}
def fldD(O:OK0)(x:D)(f:Str)(M:MH)(Q:D->Prop):Prop:=match x with
 |.ref a=>match M a with
  |some (.ins C fs)=>O C f/\optD (fs.lookup f) Q
  |_=>False
 |_=>False
def wFld(O:OK0)(f:Str)(t:WE):WE:=fun σ M Q=>t σ M fun x M1=>fldD O x f M1 fun d=>Q d M1
theorem J8{O:OK0}{f:Str}{t:WE}(hO:∀C f,O C f->Cls X.K C/\cf X.K C f)(h:PEd X o t)(hb:bB o=true):PEd X (.Attribute o f pos) (wFld O f t):=by
 intro σ M ρ H Q rs rm q;refine bz (Lc (pe_W o) (rz hb)) ?_;show tW X o ρ H _;refine aK (h σ M ρ H _ rs rm q) fun v H1 zz1=>?_
 obtain⟨k1,x,M1,r1,m1,q1⟩:=zz1;unfold fldD at q1;try dsimp only at q1
 split at q1
 ·rename_i a
  split at q1
  ·rename_i C fs e1
   obtain⟨d,e2,q2⟩:=aT q1.2;cases RV.ref_.1 r1;obtain⟨dx,gs,sq,ek,rr⟩:=m1 _ _ e1;obtain⟨v2,e3,r3⟩:=(j4 ek rr).2 d e2;exact⟨a,C,dx,gs,v2,rfl,sq,(hO C f q1.1).1,(hO C f q1.1).2,e3,k1,d,M1,r3,m1,q2⟩
  ·exact False.elim q1
 ·exact False.elim q1
def EB(O:OK0)(x:D)(f:Str)(d:D)(M:MH)(Q:MH->Prop):Prop:=match x with
 |.ref a=>match M a with
  |some (.ins C fs)=>(O C f/\fs.length<1000)/\Q (updM M a (.ins C (cq f d fs)))
  |_=>False
 |_=>False
def EC(O:OK0)(f:Str)(to tv:WE):WS:=fun E σ M=>tv σ M fun d M1=>to σ M1 fun x M2=>EB O x f d M2 fun M3=>E.nx σ M3
theorem HD{O:OK0}{f:Str}{to tv:WE}{p:Pos}(hO:∀C f,O C f->Cls X.K C/\cf X.K C f)(ho:PEd X o to)(hv:PEd X v tv):PSd X (.Assign [.Attribute o f p] v pos) (EC O f to tv):=by
 intro σ M ρ H E rs rm q;refine fM (Ld (pe_W o) (pe_W v) (by cases v<;>rfl)) ?_;show tW X v ρ H _;refine aK (hv σ M ρ H _ rs rm q) fun u H1 zz2=>?_
 obtain⟨k1,d,M1,r1,m1,q1⟩:=zz2;show tW X o ρ H1 _;refine aK (ho σ M1 ρ H1 _ (rs.mono k1) m1 q1) fun w' H2 zz3=>?_
 obtain⟨k2,x,M2,r2,m2,q2⟩:=zz3;unfold EB at q2;dsimp only at q2;split at q2
 ·rename_i a
  split at q2
  ·rename_i C fs e1
   cases RV.ref_.1 r2;obtain⟨dx,gs,sq,ek,rr⟩:=m2 _ _ e1;have kk:=Kp.put (o':=.ins C dx (putF f u gs)) sq trivial;obtain⟨p1,p2⟩:=DP (f:=f) (RV.mono (k2.trans kk) d r1) ek (RVs.mono kk _ rr);have hl:gs.length<1000:=by have:=congrArg List.length ek;simp only[List.length_map] at this;omega
   exact⟨a,C,dx,gs,rfl,sq,(hO C f q2.1.1).1,(hO C f q2.1.1).2,hl,k1.trans (k2.trans kk),σ,_,rs.mono (k1.trans (k2.trans kk)),m2.put (m:=.ins C (cq f d fs)) sq trivial ⟨dx,_,aC,p1,p2⟩,q2.2⟩
  ·exact False.elim q2
 ·exact False.elim q2
def aX(C:Addr)(sp:SpD):SpD:=fun ds M Q=>∀x,M x=none->sp (.ref x::ds) (updM M x (.ins C [])) fun d M2=>zu d=true/\Q (.ref x) M2
def MkD(P:Program)(w:World)(K:PySem.W.Frag)(mg:Str->Option Value)(base:Heap)(k:Nat)(x:Str)(sp:SpD):Prop:=
 ∃C f fd ps sp0,Mk K C f/\mg x=some (.ref C)/\Binds K fd ps []/\FnOk P w K mg base CX0 k f fd ps (iX K sp0)/\sp=aX C sp0
theorem HE{k:Nat}{x:Str}{sp:SpD}{t:WA}{p:Pos}(F:MkD X.prog X.w X.K X.mg X.base k x sp)(hr:Room (k+1) X.A)(hg:Gl X x)(hdb:(x==("__debug__" : Str))=false)(hs:aw e=true)(hss:es.all aw=true)(ha:PAd X (e::es) t):
  PEd X (.Call (.Name x p) (e::es) [] pos) (ij sp t):=by
 obtain⟨C,f,fd,ps,sp0,M0,hm,hb,F0,rfl⟩:=F;intro σ M ρ H Q rs rm q;refine bz (Jj M0 F0 hr hg hm hb .nil zo (pa_W (e::es)) hdb (bh hs) (dN hss)) ?_;show tWA X (e::es) ρ H _;refine dO (ha σ M ρ H _ rs rm q) fun vs H1 zz4=>?_
 obtain⟨k1,ds,M1,r1,l1,m1,q1⟩:=zz4;intro z dx hz hdx hne;have kk1:=Kp.new (o:=.own z) hdx;have hz2:(upd H1 dx (.own z)) z=none:=by rw[aI hne.symm];exact hz
 have kk2:=Kp.new (o:=.ins C dx []) hz2;have kk:=kk1.trans kk2;rw[List.append_nil];refine⟨.ref z::ds,updM M1 z (.ins C []),_,.cons (RV.ref_.2 rfl) (RVs.mono kk _ r1),(m1.newH hdx).new (m:=.ins C []) hz2 ⟨dx,[],aC,rfl,.nil⟩,q1 z (m1.fresh hz),fun d M' v H' qd kq rv mm=>⟨?_,k1.trans (kk.trans kq),.ref z,M',RV.ref_.2 rfl,mm,qd.2⟩⟩
 have:=tO rv
 rw[qd.1] at this;exact of_decide_eq_true this
abbrev MT0:=Addr->Str->Option SpD
def aO(P:Program)(w:World)(K:PySem.W.Frag)(mg:Str->Option Value)(base:Heap)(k:Nat)(C:Addr)(m:Str)(sp:SpD):Prop:=
 ∃f fd ps,Cls K C/\Meth K C m f/\Binds K fd ps []/\FnOk P w K mg base CX0 k f fd ps (iX K sp)
def ED(X:Cx)(T:MT0):Prop:=∀C m sp,T C m=some sp->∃k,aO X.prog X.w X.K X.mg X.base k C m sp/\Room k X.A
def zw(x:D)(m:Str)(M:MH)(Q:Addr->Prop):Prop:=match x with
 |.ref a=>match M a with
  |some (.ins C fs)=>fs.lookup m=none/\Q C
  |_=>False
 |_=>False
def uL(T:MT0)(m:Str)(to:WE)(t:WA):WE:=fun σ M Q=>to σ M fun x M1=>zw x m M1 fun C=>optD (T C m) fun sp=>t σ M1 fun ds M2=>sp (x::ds) M2 Q
theorem LP{env:Env}{p:Pos}(h:es.all aw=true)(hl:es.length<20):methodCallForm (es.length+([]:List Keyword).length) (backTo p (starEach es env)) (backToKw p (keywordEach [] env))=true:=by
 unfold methodCallForm;rw[tP h];show(true&&true&&decide (es.length+0+0<30))=true;rw[Bool.and_self,Bool.true_and];exact decide_eq_true (by omega)
theorem II {env:Env} {m:Str} {apos:Pos} (hb:bB o = true) (h:es.all aw = true) (hl:es.length < 20) (hline:(apos.endLine == pos.line) = true):eval (.Call (.Attribute o m apos) es [] pos) env = (do
   let ov ← eval o env
   standAt apos.atName
   let (f,first) ← holding [ov] (getMethod ov m (do return (← importBound o env).getD true))
   callWith pos f first (backTo pos (starEach es env)) (backToKw pos (keywordEach [] env))):=by
 rw [arm_eval_Call,rz hb]
 unfold methodCall calleeOf methodCallPos
 rw [LP h hl]
 simp [hline]
theorem HF{T:MT0}{m:Str}{to:WE}{t:WA}{apos:Pos}(hT:ED X T)(ho:PEd X o to)(ha:PAd X (e::es) t)(hb:bB o=true)(hs:aw e=true)(hss:es.all aw=true)(hl:es.length<19)(hline:(apos.endLine==pos.line)=true):
  PEd X (.Call (.Attribute o m apos) (e::es) [] pos) (uL T m to t):=by
 intro σ M ρ H Q rs rm h pins s I;have hall:(e::es).all aw=true:=by rw[List.all_cons,hs,hss];rfl
 refine PySem.W.methodCall_KW (thn (ho σ M ρ H _ rs rm h pins s I) fun u s1 zz5=>?_) (II hb hall (by rw[List.length_cons];omega) hline);obtain⟨v,H1,I1,rv,⟨k1,x,M1,r1,m1,q1⟩⟩:=zz5;unfold zw at q1;dsimp only at q1;split at q1
 ·rename_i a
  split at q1
  ·rename_i C fs e1
   obtain⟨hn,q1⟩:=q1;obtain⟨sp,eT,q1⟩:=aT q1;cases RV.ref_.1 r1;obtain rfl:u=Value.ref a:=rv;obtain⟨dx,gs,sq,ek,rr⟩:=m1 _ _ e1;obtain⟨k,⟨f,fd,ps,c,hm,hbd,F⟩,hr⟩:=hT C m sp eT
   ·refine uj I1 sq c hm ((j4 ek rr).1 hn) ?_
    refine PySem.W.callWith_K (first:=[.ref a]) (h₀:=X.base) I.ok.mod.kin hm.kp (thn (ha σ M1 ρ H1 _ (rs.mono k1) m1 q1 pos pins s1 I1) fun us s2 zz6=>?_) (bh hs) (dN hss);obtain⟨vs,H2,I2,r,⟨k2,ds,M2,r2,l2,m2,q2⟩⟩:=zz6;refine⟨I2.kIn,?_⟩;refine zF (us:=.ref a::us) (vs:=.ref a::vs) F hr hbd .nil zo I2 (.cons rfl r) ?_;rw[List.append_nil];exact⟨.ref a::ds,M2,Q,.cons (RV.ref_.2 rfl) r2,m2,q2,fun d M' v H' qd kq rv mm=>⟨k1.trans (k2.trans kq),d,M',rv,mm,qd⟩⟩
  ·exact False.elim q1
 ·exact False.elim q1
theorem Gb{T:MT0}{m:Str}{to:WE}{apos:Pos}(hT:ED X T)(ho:PEd X o to)(hb:bB o=true)(hline:(apos.endLine==pos.line)=true):
  PEd X (.Call (.Attribute o m apos) [] [] pos) (uL T m to wNil):=by
 intro σ M ρ H Q rs rm h pins s I;refine PySem.W.methodCall_KW (thn (ho σ M ρ H _ rs rm h pins s I) fun u s1 zz7=>?_) (II hb rfl (by decide) hline);obtain⟨v,H1,I1,rv,⟨k1,x,M1,r1,m1,q1⟩⟩:=zz7;unfold zw at q1;dsimp only at q1;split at q1
 ·rename_i a
  split at q1
  ·rename_i C fs e1
   obtain⟨hn,q1⟩:=q1;obtain⟨sp,eT,q1⟩:=aT q1;cases RV.ref_.1 r1;obtain rfl:u=Value.ref a:=rv;obtain⟨dx,gs,sq,ek,rr⟩:=m1 _ _ e1;obtain⟨k,⟨f,fd,ps,c,hm,hbd,F⟩,hr⟩:=hT C m sp eT;refine uj I1 sq c hm ((j4 ek rr).1 hn) ?_;refine PySem.W.callWith_K0 (first:=[.ref a]) I1.kIn hm.kp (zF (us:=[.ref a]) (vs:=[.ref a]) F hr hbd .nil zo I1 (.cons rfl .nil) ?_);exact⟨[.ref a],M1,Q,.cons (RV.ref_.2 rfl) .nil,m1,q1,fun d M' v H' qd kq rv mm=>⟨k1.trans kq,d,M',rv,mm,qd⟩⟩
  ·exact False.elim q1
 ·exact False.elim q1
end
end DD
namespace DD
open PySem PyProof.Rows L2
section
variable {K : Type} [DecidableEq K]
def addK(l:List K)(k:K):List K:=if k∈l then l else l++[k]
def aV(ks:List K):List K:=ks.foldl addK []
theorem uM(ks:List K)(k:K):aV (ks++[k])=addK (aV ks) k:=by unfold aV;rw[List.foldl_append];rfl
theorem z6(l:List K)(k:K):(addK l k).length=if decide (k∈l) then l.length else l.length+1:=by
 unfold addK;by_cases h:k∈l
 ·rw[if_pos h,if_pos (decide_eq_true h)]
 ·rw[if_neg h,if_neg (by simpa using h)];simp
theorem HG(l:List K)(k j:K):decide (j∈addK l k)=(decide (j∈l)||decide (j=k)):=by
 unfold addK;by_cases h:k∈l
 ·rw[if_pos h]
  by_cases e:j=k
  ·subst e;simp[h]
  ·simp[e]
 ·rw[if_neg h];simp
theorem oY:∀(ks l:List K),(ks.foldl addK l).length<=l.length+ks.length
 |[],l=>by simp
 |k::ks,l=>by
  have h1:=oY ks (addK l k);have h2:(addK l k).length<=l.length+1:=by rw[z6];split<;>omega
  simp only[List.foldl_cons,List.length_cons];omega
theorem HH(ks:List K):(aV ks).length<=ks.length:=by have:=oY ks [];simpa [aV] using this
end
section
variable {prog : Program} {w : World} {A : Around} {R : Result -> Shared -> Prop} {K : Type} [DecidableEq K] {knd : KeyKind prog w K}
theorem tQ{h:Heap}{a:Addr}{S S':K->Bool}{n n':Nat}(q:h.SetOf knd a S n)(e:∀k,S k=S' k)(en:n=n'):h.SetOf knd a S' n':=by
 obtain rfl:S=S':=funext e;subst en;exact q
theorem uN{h h':Heap}{a:Addr}{S:K->Bool}{n:Nat}(q:h.SetOf knd a S n)(k:∀o,h.get? a=some o->h'.get? a=some o):h'.SetOf knd a S n:=by
 obtain⟨o,es,ep,t,y,r⟩:=q;exact⟨o,es,ep,t,k o y,r⟩
theorem z7{I:Addr}{fp wr:List Addr}{G:Array GenState->Array GenState->Prop}{n:Nat}{P:Nat->Value->Prop}{St:Nat->Shared->Prop}(W:WalksS prog w A.in1 I fp wr G n P St){B:Addr}(hB:B∉fp){ks:List K}
  (hn:ks.length=n) (hv:∀i v,P i v->∀k,ks[i]?=some k->knd.is k v=true/\v.scannable=true) (hb:n+1<scanBound):
  ∀(j i:Nat) (t:Shared),n-i=j->i<=n->St i t->t.heap.SetOf knd B (fun k=>decide (k∈aV (ks.take i))) (aV (ks.take i)).length ->
   (∀t',Moved (B::wr) G t t'->t'.heap.SetOf knd B (fun k=>decide (k∈aV ks)) (aV ks).length->R (.ok (.ret .none)) t') ->
   codeAny (model prog w) A (.builtin "set.update.loop" ⟨[.ref B,.ref I],[]⟩) R t:=by
 have hw:B∉wr:=fun h=>hB (W.sub _ h)
 have up:∀b∈wr,b∈B::wr:=fun b y=>.tail _ y
 intro j;induction j with
 |zero=>
  intro i t e hi st q hR;obtain rfl:i=n:=by omega
  refine codeAny_builtin F.entry_set_update_loop ?_;rw[Around.under_plainId F.plain_set_update_loop _];refine wpAny_bind (show wpAny _ A.in1 (pyNext (.ref I)) _ _ t from W.done t _ _ st fun t' mv=>?_);refine show wpAny _ A.in1 (ret Value.none) _ _ t' from wpAny_pure (hR t' (mv.mono up) ?_);rw[List.take_of_length_le (Nat.le_of_eq hn)] at q;exact uN q fun o y=>mv.heap B _ hw y
 |succ j ih=>
  intro i t e hi st q hR;have lt:i<n:=by omega
  refine codeAny_builtin F.entry_set_update_loop ?_;rw[Around.under_plainId F.plain_set_update_loop _];refine wpAny_bind (show wpAny _ A.in1 (pyNext (.ref I)) _ _ t from W.item i t _ _ lt st fun v t' p st' mv=>?_);obtain⟨k,hk⟩:∃k,ks[i]?=some k:=⟨_,List.getElem?_eq_getElem (by omega)⟩;obtain⟨is,sc⟩:=hv i v p k hk;have q':=uN (h':=t'.heap) q fun o y=>mv.heap B _ hw y
  refine wpAny_bind (show wpAny _ A.in1 (holding [v] (setAdd B v)) _ _ t' from wpAny_holding ?_);unfold setAdd;refine wpAny_holding (wpAny_bind (knd.pyHash is ?_));have room:(aV (ks.take i)).length+1<scanBound:=by have:=HH (ks.take i);rw[List.length_take] at this;omega
  have tk:ks.take (i+1)=ks.take i++[k]:=by rw[List.take_add_one,hk];rfl
  refine wpAny_setAddHashed_of (knd:=knd) (s:={ t' with toks:=t'.toks+1 }) is sc q' room fun h' sb q2=>?_
  have q3:=tQ (S':=fun k'=>decide (k'∈aV (ks.take (i+1)))) (n':=(aV (ks.take (i+1))).length) q2 (fun k'=>by rw[tk,uM,HG]) (by rw[tk,uM,z6]);refine wpAny_pure ⟨plainId_quiet F.plain_set_update_loop _,ih (i+1) _ (by omega) lt (W.frame _ t' _ _ st' (Nat.le_succ _) fun b y o e=>?_) q3 fun t2 mv2 q4=>?_⟩
  ·rw[sb.2 b (fun z:b=B=>hB (z▸y))];exact e
  ·refine hR t2 (Moved.trans W.gtrans ((mv.mono up).then_heap (Nat.le_succ _) fun b o y e=>?_) mv2) q4
   rw[sb.2 b (fun z:b=B=>y (z▸List.mem_cons_self))];exact e
end
end DD
set_option maxHeartbeats 8000000
namespace DD
open PySem PyProof.Rows L2
section
variable {prog : Program} {w : World} {A : Around} {Z : Value -> Shared -> Prop} {s : Shared} {K : Type} [DecidableEq K] {knd : KeyKind prog w K}
def bg(led:Bool):Obj:={ cls:=.type "set",dict:=none,data:=.set #[] 0 (.fresh 0 0 led) }
theorem Gc{l:Addr}{items:Array Value}{ks:List K}{Q:Value->Shared->Prop}(hh:A.handled=none)(hl:s.heap.IsList l items)(hn:ks.length=items.size)
  (hv:∀(i:Nat) (v:Value),items[i]?=some v->∀k,ks[i]?=some k->knd.is k v=true/\v.scannable=true) (hb:items.size+1<scanBound)
  (q:∀(h':Heap) (tk:Nat),h'.SetOf knd s.heap.objs.size (fun k=>decide (k∈aV ks)) (aV ks).length ->
   (∀b o,b<s.heap.objs.size->s.heap.get? b=some o->h'.get? b=some o)->Q (.ref s.heap.objs.size) { s with heap:=h',toks:=tk }):
  wpAny (model prog w) A (call (.type "set") [.ref l]) Q Z s:=by
 obtain⟨c,tl,hmro⟩:=F.called_set.mro;have hmade:=F.called_set.made;have hsub:=F.called_set.sub;have n1:=F.called_set.notType;have n2:=F.called_set.canCreate;have n3:=F.typeCall_set_1 (.ref l);refine wpAny_call (codeAny_of_tree (show wpAny _ _ (callAny (.type "set") _) _ _ _ from wpAny_pure ⟨Code.quiet_builtin _ (by decide +kernel),codeAny_builtin F.entry_type_call ?_⟩));rw[Around.under_plain (weight_type_call_type "set" [.ref l] []) rfl];repeat (any_goals (first | assumption | wp_step))
 refine codeAny_mono (code_set_new_1 (.ref l) (E:=Z) (Q₁:=fun o t=>∃led:Bool,o=.ref s.heap.objs.size/\t={ s with heap:=s.heap.push (bg led) }) fun led=>⟨led,rfl,rfl⟩) fun r t hr=>?_
 cases r with
 |error e=>exact hr
 |ok fl=>
  cases fl with
  |ret o=>
   obtain⟨led,rfl,rfl⟩:=hr;have g0:(s.heap.push (bg led)).get? s.heap.objs.size=some (bg led):=Heap.get?_push_size _ rfl;have ty:Shared.TypeIs { s with heap:=s.heap.push (bg led) } (.ref s.heap.objs.size) "set":=⟨_,g0,rfl⟩;have l1:=F.called_set.init.lookup;have l2:=F.called_set.init.bind (.ref s.heap.objs.size);repeat (any_goals (first | assumption | wp_step))
   refine codeAny_mono (codeAny_call_builtin (R:=wants (fun r t2=>r=.none/\∃h' tk,t2={ s with heap:=h',toks:=tk }/\h'.SetOf knd s.heap.objs.size (fun k=>decide (k∈aV ks)) (aV ks).length /\
     (∀b o,b<s.heap.objs.size->s.heap.get? b=some o->h'.get? b=some o)) Z) F.called_set.init.plain F.entry_set_init (check_set_init_1 ty ?_)) fun r2 t2 hr2=>?_
   ·obtain⟨⟨oc,od,odt,osl⟩,y1,y2,m,y3⟩:=hl
    obtain rfl:oc=.type "list":=y2;obtain rfl:odt=.seq items m:=y3;have y4:(s.heap.push (bg led)).get? l=some { cls:=.type "list",dict:=od,data:=.seq items m,slots:=osl }:=Heap.get?_push_of_some _ y1;have s1:=F.sub_list_set;have s2:=F.sub_list_frozenset;have s3:(Value.type "list" == Value.type "dict")=false:=by decide
    have y5:(s.heap.push (bg led)).IsList l items:=⟨_,y4,rfl,m,rfl⟩;unfold Builtin.«set.__init__» noKeywords Builtin.Frozenset.updateFrom;generalize hPI:pyIter=PI;wp_walk;subst hPI;refine wpAny_pyIter_list y5 (wpAny_bind (wpAny_runValue ?_));have z1:(s.heap.push (bg led)).objs.size=s.heap.objs.size+1:=Heap.size_push ..;have z2:l<s.heap.objs.size:=Heap.lt_size y1;have z3:l≠(s.heap.push (bg led)).objs.size:=by rw[z1];exact Nat.ne_of_lt (Nat.lt_succ_of_lt z2)
    have z4:s.heap.objs.size∉[(s.heap.push (bg led)).objs.size,l]:=by
     rw[z1];intro y;rcases List.mem_cons.1 y with y | y
     ·exact absurd y (Nat.ne_of_lt (Nat.lt_succ_self _))
     ·exact absurd (List.mem_singleton.1 y) (Nat.ne_of_gt z2)
    refine z7 ((Walks.list (by simp[hh]) _ l z3 items).toS) (knd:=knd) (ks:=ks) z4 hn hv hb (items.size-0) 0 _ (by omega) (Nat.zero_le _) ⟨⟨_,Heap.get?_push_size _ rfl,rfl,rfl⟩,(y5.push _)⟩ ?_ ?_
    ·have:=(setObjOf_fresh (knd:=knd) led).setOf (Heap.get?_push_of_some ({ cls:=.type "list_iterator",data:=.fields #[.ref l,.int 0 0] }:Obj) g0) (by unfold scanBound;omega)
     exact tQ this (fun k=>by simp[aV]) (by simp[aV])
    ·intro t' mv q'
     obtain⟨h',g',d',tk',os'⟩:=t';obtain rfl:g'=s.gens:=mv.gens;obtain rfl:d'=s.drawn:=mv.drawn;obtain rfl:os'=s.os:=mv.os;refine wpAny_pure (show wpAny _ _ (ret Value.none) _ _ _ from wpAny_pure ⟨rfl,h',tk',rfl,q',fun b o lt e=>mv.heap b o ?_ (Heap.get?_push_of_some _ (Heap.get?_push_of_some _ e))⟩);rw[z1];intro y;rcases List.mem_cons.1 y with y | y
     ·exact Nat.ne_of_lt lt y
     ·exact Nat.ne_of_lt (Nat.lt_succ_of_lt lt) (List.mem_singleton.1 y)
   ·cases r2 with
    |error e=>exact hr2
    |ok fl2=>
     cases fl2 with
     |ret r=>
      obtain⟨rfl,h',tk,rfl,q',k'⟩:=hr2;repeat (any_goals (first | assumption | wp_step))
      exact q _ _ q' k'
     |_=>exact hr2.elim
  |_=>exact hr.elim
end
end DD
namespace DD
open PySem PyProof.Rows L2
section
variable {prog : Program} {w : World} {A : Around} {Z : Value -> Shared -> Prop} {s : Shared} {K : Type} [DecidableEq K] {knd : KeyKind prog w K}
theorem EE{l:Addr}{items:Array Value}{ks:List K}{Q:Value->Shared->Prop}(hh:A.handled=none)(hl:s.heap.IsTuple l items)(hn:ks.length=items.size)
  (hv:∀(i:Nat) (v:Value),items[i]?=some v->∀k,ks[i]?=some k->knd.is k v=true/\v.scannable=true) (hb:items.size+1<scanBound)
  (q:∀(h':Heap) (tk:Nat),h'.SetOf knd s.heap.objs.size (fun k=>decide (k∈aV ks)) (aV ks).length ->
   (∀b o,b<s.heap.objs.size->s.heap.get? b=some o->h'.get? b=some o)->Q (.ref s.heap.objs.size) { s with heap:=h',toks:=tk }):
  wpAny (model prog w) A (call (.type "set") [.ref l]) Q Z s:=by
 obtain⟨c,tl,hmro⟩:=F.called_set.mro;have hmade:=F.called_set.made;have hsub:=F.called_set.sub;have n1:=F.called_set.notType;have n2:=F.called_set.canCreate;have n3:=F.typeCall_set_1 (.ref l);refine wpAny_call (codeAny_of_tree (show wpAny _ _ (callAny (.type "set") _) _ _ _ from wpAny_pure ⟨Code.quiet_builtin _ (by decide +kernel),codeAny_builtin F.entry_type_call ?_⟩));rw[Around.under_plain (weight_type_call_type "set" [.ref l] []) rfl];repeat (any_goals (first | assumption | wp_step))
 refine codeAny_mono (code_set_new_1 (.ref l) (E:=Z) (Q₁:=fun o t=>∃led:Bool,o=.ref s.heap.objs.size/\t={ s with heap:=s.heap.push (bg led) }) fun led=>⟨led,rfl,rfl⟩) fun r t hr=>?_
 cases r with
 |error e=>exact hr
 |ok fl=>
  cases fl with
  |ret o=>
   obtain⟨led,rfl,rfl⟩:=hr;have g0:(s.heap.push (bg led)).get? s.heap.objs.size=some (bg led):=Heap.get?_push_size _ rfl;have ty:Shared.TypeIs { s with heap:=s.heap.push (bg led) } (.ref s.heap.objs.size) "set":=⟨_,g0,rfl⟩;have l1:=F.called_set.init.lookup;have l2:=F.called_set.init.bind (.ref s.heap.objs.size);repeat (any_goals (first | assumption | wp_step))
   refine codeAny_mono (codeAny_call_builtin (R:=wants (fun r t2=>r=.none/\∃h' tk,t2={ s with heap:=h',toks:=tk }/\h'.SetOf knd s.heap.objs.size (fun k=>decide (k∈aV ks)) (aV ks).length /\
     (∀b o,b<s.heap.objs.size->s.heap.get? b=some o->h'.get? b=some o)) Z) F.called_set.init.plain F.entry_set_init (check_set_init_1 ty ?_)) fun r2 t2 hr2=>?_
   ·obtain⟨⟨oc,od,odt,osl⟩,y1,y2,m,y3⟩:=hl
    obtain rfl:oc=.type "tuple":=y2;obtain rfl:odt=.seq items m:=y3;have y4:(s.heap.push (bg led)).get? l=some { cls:=.type "tuple",dict:=od,data:=.seq items m,slots:=osl }:=Heap.get?_push_of_some _ y1;have s1:=F.sub_tuple_set;have s2:=F.sub_tuple_frozenset;have s3:(Value.type "tuple" == Value.type "dict")=false:=by decide
    have y5:(s.heap.push (bg led)).IsTuple l items:=⟨_,y4,rfl,m,rfl⟩;unfold Builtin.«set.__init__» noKeywords Builtin.Frozenset.updateFrom;generalize hPI:pyIter=PI;wp_walk;subst hPI;refine wpAny_pyIter_tuple y5 (wpAny_bind (wpAny_runValue ?_));have z1:(s.heap.push (bg led)).objs.size=s.heap.objs.size+1:=Heap.size_push ..;have z2:l<s.heap.objs.size:=Heap.lt_size y1;have z3:l≠(s.heap.push (bg led)).objs.size:=by rw[z1];exact Nat.ne_of_lt (Nat.lt_succ_of_lt z2)
    have z4:s.heap.objs.size∉[(s.heap.push (bg led)).objs.size,l]:=by
     rw[z1];intro y;rcases List.mem_cons.1 y with y | y
     ·exact absurd y (Nat.ne_of_lt (Nat.lt_succ_self _))
     ·exact absurd (List.mem_singleton.1 y) (Nat.ne_of_gt z2)
    refine z7 ((Walks.tuple (by simp[hh]) _ l z3 items).toS) (knd:=knd) (ks:=ks) z4 hn hv hb (items.size-0) 0 _ (by omega) (Nat.zero_le _) ⟨⟨_,Heap.get?_push_size _ rfl,rfl,rfl⟩,(y5.push _)⟩ ?_ ?_
    ·have:=(setObjOf_fresh (knd:=knd) led).setOf (Heap.get?_push_of_some ({ cls:=.type "tuple_iterator",data:=.fields #[.ref l,.int 0 0] }:Obj) g0) (by unfold scanBound;omega)
     exact tQ this (fun k=>by simp[aV]) (by simp[aV])
    ·intro t' mv q'
     obtain⟨h',g',d',tk',os'⟩:=t';obtain rfl:g'=s.gens:=mv.gens;obtain rfl:d'=s.drawn:=mv.drawn;obtain rfl:os'=s.os:=mv.os;refine wpAny_pure (show wpAny _ _ (ret Value.none) _ _ _ from wpAny_pure ⟨rfl,h',tk',rfl,q',fun b o lt e=>mv.heap b o ?_ (Heap.get?_push_of_some _ (Heap.get?_push_of_some _ e))⟩);rw[z1];intro y;rcases List.mem_cons.1 y with y | y
     ·exact Nat.ne_of_lt lt y
     ·exact Nat.ne_of_lt (Nat.lt_succ_of_lt lt) (List.mem_singleton.1 y)
   ·cases r2 with
    |error e=>exact hr2
    |ok fl2=>
     cases fl2 with
     |ret r=>
      obtain⟨rfl,h',tk,rfl,q',k'⟩:=hr2;repeat (any_goals (first | assumption | wp_step))
      exact q _ _ q' k'
     |_=>exact hr2.elim
  |_=>exact hr.elim
end
end DD
namespace DD
open PySem PySem.Spec PyProof.Rows L2
def oy:List D->Option (List Str)
 |[]=>some []
 |.str x::r=>(oy r).map (x :: ·)
 |_=>none
def j5:List D->Option (List Int)
 |[]=>some []
 |.int x::r=>(j5 r).map (x :: ·)
 |_=>none
theorem z8{K:PySem.W.Frag}{H:Hp}:∀{ds:List D}{ks:List Str}{vs:List V},oy ds=some ks->RVs K H ds vs->vs=ks.map V.str
 |[],ks,vs,h,r=>by
  rw[oy] at h;cases h;rw[RVs] at r;subst r;rfl
 |.str x::ds,ks,vs,h,r=>by
  rw[oy] at h;rw[RVs] at r;obtain⟨v,vs',rfl,r1,r2⟩:=r;cases q:oy ds with
  |none=>rw[q] at h;cases h
  |some js=>
   rw[q] at h;cases h;rw[z8 q r2,RV.str_.1 r1];rfl
 |.non::_,_,_,h,_=>by cases h
 |.bl _::_,_,_,h,_=>by cases h
 |.int _::_,_,_,h,_=>by cases h
 |.tup _::_,_,_,h,_=>by cases h
 |.ref _::_,_,_,h,_=>by cases h
 |.ty _::_,_,_,h,_=>by cases h
theorem tR{K:PySem.W.Frag}{H:Hp}:∀{ds:List D}{ks:List Int}{vs:List V},j5 ds=some ks->RVs K H ds vs->vs=ks.map V.int
 |[],ks,vs,h,r=>by
  rw[j5] at h;cases h;rw[RVs] at r;subst r;rfl
 |.int x::ds,ks,vs,h,r=>by
  rw[j5] at h;rw[RVs] at r;obtain⟨v,vs',rfl,r1,r2⟩:=r;cases q:j5 ds with
  |none=>rw[q] at h;cases h
  |some js=>
   rw[q] at h;cases h;rw[tR q r2,RV.int_.1 r1];rfl
 |.non::_,_,_,h,_=>by cases h
 |.bl _::_,_,_,h,_=>by cases h
 |.str _::_,_,_,h,_=>by cases h
 |.tup _::_,_,_,h,_=>by cases h
 |.ref _::_,_,_,h,_=>by cases h
 |.ty _::_,_,_,h,_=>by cases h
def rD(xs:List D)(Q:Int->Prop):Prop:=xs.length<4000/\match oy xs with
 |some ks=>Q ((aV ks).length:Nat)
 |none=>match j5 xs with
  |some ks=>Q ((aV ks).length:Nat)
  |none=>False
def lstD(d:D)(M:MH)(Q:List D->Prop):Prop:=match d with
 |.ref a=>match M a with
  |some (.lst xs)=>Q xs
  |some (.rol xs)=>Q xs
  |_=>False
 |_=>False
def seqL(d:D)(M:MH)(Q:List D->Prop):Prop:=match d with
 |.tup xs=>Q xs
 |d=>lstD d M Q
def xb(t:WE):WE:=fun σ M Q=>t σ M fun d M1=>seqL d M1 fun xs=>rD xs fun n=>Q (.int n) M1
section
variable {X : Cx} {H : Hp} {pos : Pos}
theorem J9{K:PySem.W.Frag}{d:D}{M:MH}{Q:List D->Prop}{v:V}(q:lstD d M Q)(rv:RV K H d v)(rm:RM K M H):∃a xs vs,v=.ref a/\SqL K H a vs/\RVs K H xs vs/\Q xs:=by
 unfold lstD at q;split at q
 ·rename_i a
  split at q
  ·rename_i xs e
   obtain⟨ys,e1,rr⟩:=rm a _ e;exact⟨a,xs,ys,RV.ref_.1 rv,SqL.of e1,rr,q⟩
  ·rename_i xs e
   obtain⟨ys,e1,rr⟩:=rm a _ e;exact⟨a,xs,ys,RV.ref_.1 rv,.inl e1,rr,q⟩
  ·exact False.elim q
 ·exact False.elim q
theorem Gd{pins:List (Addr×Obj)}{ρ:L2.St}{s:Shared}{a:Addr}{xs:List D}{vs:List V}{Q:Int->Prop}{Z:Value->Shared->Prop}{R:Value->Shared->Prop}(hc:X.calm=true)(I:Inv X pins ρ H s)(hq:SqL X.K H a vs\/SqT X.K H a vs)(rr:RVs X.K H xs vs)(q:rD xs Q)
  (g:∀n tk h' tk',Q n->Inv X pins ρ H { s with heap:=h',toks:=tk' }->R (.int n tk) { s with heap:=h',toks:=tk' }):
  wpAny (model X.prog X.w) X.A (call (.type "set") [.ref a]) (fun u s1=>wpAny (model X.prog X.w) X.A (call (.builtin "len") [u]) R Z s1) Z s:=by
 have ht:∃its,Vals vs its/\(s.heap.IsList a its.toArray\/s.heap.IsTuple a its.toArray):=by
  rcases hq with hq | hq
  ·obtain⟨its,rv,p,_⟩:=I.list hq
   exact⟨its,rv,.inl p.isList⟩
  ·obtain⟨its,rv,p,_⟩:=I.tuple hq
   exact⟨its,rv,.inr p⟩
 obtain⟨its,rv,p⟩:=ht;have ll:xs.length=its.length:=by rw[rr.len,rv.length]
 have setA:∀{K:Type}[DecidableEq K] {knd:KeyKind X.prog X.w K}{ks:List K}{Q2:Value->Shared->Prop},ks.length=its.toArray.size->(∀(i:Nat) (v:Value),its.toArray[i]?=some v->∀k,ks[i]?=some k->knd.is k v=true/\v.scannable=true)->its.toArray.size+1<scanBound ->
   (∀(h':Heap) (tk:Nat),h'.SetOf knd s.heap.objs.size (fun k=>decide (k∈aV ks)) (aV ks).length->(∀b o,b<s.heap.objs.size->s.heap.get? b=some o->h'.get? b=some o)->Q2 (.ref s.heap.objs.size) { s with heap:=h',toks:=tk }) ->
   wpAny (model X.prog X.w) X.A (call (.type "set") [.ref a]) Q2 Z s:=by
  intro K _ knd ks Q2 a1 a2 a3 a4;rcases p with p | p
  ·exact Gc (I.ok.hd hc) p a1 a2 a3 a4
  ·exact EE (I.ok.hd hc) p a1 a2 a3 a4
 unfold rD at q;obtain⟨hl,q⟩:=q;have fin:∀{K:Type}[DecidableEq K] {knd:KeyKind X.prog X.w K}{ks:List K}(h':Heap) (tk:Nat),h'.SetOf knd s.heap.objs.size (fun k=>decide (k∈aV ks)) (aV ks).length->Q ((aV ks).length:Nat) ->
   (∀b o,b<s.heap.objs.size->s.heap.get? b=some o->h'.get? b=some o)->wpAny (model X.prog X.w) X.A (call (.builtin "len") [.ref s.heap.objs.size]) R Z { s with heap:=h',toks:=tk }:=by
  intro K _ knd ks h' tk st qq kp;obtain⟨o,es,ep,t,y1,y2,y3,_,_,y4,y5,y6⟩:=st;rw[←y6] at qq;refine call_len_set (s:={ s with heap:=h',toks:=tk }) y1 y2 y3 y5 (by unfold scanBound at y4;omega) ?_;exact g _ _ h' (tk+1+1) qq (I.kept (t':=tk+1+1) fun b o e=>kp b o (Heap.lt_size e) e)
 split at q
 ·rename_i ks e
  obtain rfl:=z8 e rr;have lk:ks.length=its.length:=by have:=rv.length;simpa using this
  refine setA (knd:=strKind X.prog X.w) (ks:=ks) (by simpa using lk) (fun i v hv k hk=>?_) (by unfold scanBound;simp;omega) fun h' tk st kp=>fin h' tk st q kp
  obtain⟨u,h1,h2⟩:=rv.get (i:=i) (x:=.str k) (by simp[hk]);have:v=u:=by simp at hv;rw[hv] at h1;cases h1;rfl
  subst this;obtain⟨t,rfl⟩:∃t,v=Value.str k t:=h2;exact⟨strKind_is _ _ _ _,rfl⟩
 ·split at q
  ·rename_i ks e
   obtain rfl:=tR e rr;have lk:ks.length=its.length:=by have:=rv.length;simpa using this
   refine setA (knd:=intKind X.prog X.w) (ks:=ks) (by simpa using lk) (fun i v hv k hk=>?_) (by unfold scanBound;simp;omega) fun h' tk st kp=>fin h' tk st q kp
   obtain⟨u,h1,h2⟩:=rv.get (i:=i) (x:=.int k) (by simp[hk]);have:v=u:=by simp at hv;rw[hv] at h1;cases h1;rfl
   subst this;obtain⟨t,rfl⟩:∃t,v=Value.int k t:=h2;exact⟨intKind_is _ _ _ _,rfl⟩
  ·exact False.elim q
theorem EF{l:Expr}{t:WE}{p p2 pos2:Pos}(hc:X.calm=true)(hg:Gl X "len")(hm:X.mg "len" = none)(hg2:Gl X "set")(hm2:X.mg "set" = none)(h:PEd X l t)(hs:aw l=true):PEd X (.Call (.Name "len" p) [.Call (.Name "set" p2) [l] [] pos2] [] pos) (xb t):=by
 intro σ M ρ H Q rs rm q pins s I;refine Call_ (fL I hg hm PySem.boot_len (callWith_builtin1 (args_cons (Call_ (fL I hg2 hm2 (by decide +kernel:bootBuiltins "set" = some (.type "set")) (PyProof.Rows.callWith_type1 (args_cons (thn (h σ M ρ H _ rs rm q pins s I) fun u s1 zz1=>?_) (bh hs)) (bh hs) rfl))))));obtain⟨v,H1,I1,rv,⟨k1,d,M1,r1,m1,q1⟩⟩:=zz1;have hsq:∃a xs vs,v=.ref a/\(SqL X.K H1 a vs\/SqT X.K H1 a vs)/\RVs X.K H1 xs vs/\rD xs fun n=>Q (.int n) M1:=by
  unfold seqL at q1;dsimp only at q1;split at q1
  ·obtain⟨a,vs,rfl,sq,rr⟩:=RV.tup_.1 r1
   exact⟨a,_,vs,rfl,.inr sq,rr,q1⟩
  ·obtain⟨a,xs,vs,rfl,sq,rr,q2⟩:=J9 q1 r1 m1
   exact⟨a,xs,vs,rfl,.inl sq,rr,q2⟩
 obtain⟨a,xs,vs,rfl,sq,rr,q2⟩:=hsq;cases rv;refine args_nil ?_
 have:=Gd (X:=X) (R:=fun w t=>EP X pins ρ (lift X.K H Q) w t) (Z:=X.xe) hc I1 sq rr q2 fun n tk h' tk' qn I'=>⟨.int n,H1,I',⟨_,rfl⟩,k1,.int n,M1,RV.int_.2 rfl,m1,qn⟩
 exact wpAny_mono this (fun u t y=>args_nil y) fun _ _ y=>y
end
end DD
namespace DD
open PySem L2
theorem gr:typeLookup (.type "str") "__int__" = pure none:=by rw[typeLookup_type,builtinLookup_eq_fast];kernel_rfl
theorem di:typeLookup (.type "str") "__index__" = pure none:=by rw[typeLookup_type,builtinLookup_eq_fast];kernel_rfl
theorem dj:typeLookup (.type "str") "__trunc__" = pure none:=by rw[typeLookup_type,builtinLookup_eq_fast];kernel_rfl
theorem rE{α:Type}{Mo:Model}{A:Around}{Z:Value->Shared->Prop}{s:Shared}{m m':Sem α}{Q:α->Shared->Prop}(e:m=m')(h:wpAny Mo A m' Q Z s):wpAny Mo A m Q Z s:=e▸h
theorem HI(t:Tok):Meets (Builtin.«int.__new__» ⟨[.type "int",.str "1" t],[]⟩) (Made.int 1).spec:=
 Meets.of_wp fun prog w A R s hs=>by
  obtain⟨hp,g,d,tk,os⟩:=s;have f1:=F.conv_sub_int;have f2:=F.madeHere_int;have hT:(⟨hp,g,d,tk,os⟩:Shared).TypeIs (.str "1" t) "str":=rfl;have f3:=gr;have f4:=di;have f5:=dj;repeat (any_goals (first | assumption | wp_step))
  rw[if_pos (by decide +kernel)];refine wpAny_bind (wpAny_pure ?_);dsimp only;refine rE (m':=mkInt 1) (by kernel_rfl) (wpAny_mkInt ?_);exact wpAny_pure ⟨_,rfl,hs⟩
theorem HJ(t:Tok):Meets (Builtin.«int.__new__» ⟨[.type "int",.str "2" t],[]⟩) (Made.int 2).spec:=
 Meets.of_wp fun prog w A R s hs=>by
  obtain⟨hp,g,d,tk,os⟩:=s;have f1:=F.conv_sub_int;have f2:=F.madeHere_int;have hT:(⟨hp,g,d,tk,os⟩:Shared).TypeIs (.str "2" t) "str":=rfl;have f3:=gr;have f4:=di;have f5:=dj;repeat (any_goals (first | assumption | wp_step))
  rw[if_pos (by decide +kernel)];refine wpAny_bind (wpAny_pure ?_);dsimp only;refine rE (m':=mkInt 2) (by kernel_rfl) (wpAny_mkInt ?_);exact wpAny_pure ⟨_,rfl,hs⟩
theorem HK(t:Tok):Meets (Builtin.«int.__new__» ⟨[.type "int",.str "3" t],[]⟩) (Made.int 3).spec:=
 Meets.of_wp fun prog w A R s hs=>by
  obtain⟨hp,g,d,tk,os⟩:=s;have f1:=F.conv_sub_int;have f2:=F.madeHere_int;have hT:(⟨hp,g,d,tk,os⟩:Shared).TypeIs (.str "3" t) "str":=rfl;have f3:=gr;have f4:=di;have f5:=dj;repeat (any_goals (first | assumption | wp_step))
  rw[if_pos (by decide +kernel)];refine wpAny_bind (wpAny_pure ?_);dsimp only;refine rE (m':=mkInt 3) (by kernel_rfl) (wpAny_mkInt ?_);exact wpAny_pure ⟨_,rfl,hs⟩
theorem HL(t:Tok):Meets (Builtin.«int.__new__» ⟨[.type "int",.str "4" t],[]⟩) (Made.int 4).spec:=
 Meets.of_wp fun prog w A R s hs=>by
  obtain⟨hp,g,d,tk,os⟩:=s;have f1:=F.conv_sub_int;have f2:=F.madeHere_int;have hT:(⟨hp,g,d,tk,os⟩:Shared).TypeIs (.str "4" t) "str":=rfl;have f3:=gr;have f4:=di;have f5:=dj;repeat (any_goals (first | assumption | wp_step))
  rw[if_pos (by decide +kernel)];refine wpAny_bind (wpAny_pure ?_);dsimp only;refine rE (m':=mkInt 4) (by kernel_rfl) (wpAny_mkInt ?_);exact wpAny_pure ⟨_,rfl,hs⟩
theorem HM(t:Tok):Meets (Builtin.«int.__new__» ⟨[.type "int",.str "5" t],[]⟩) (Made.int 5).spec:=
 Meets.of_wp fun prog w A R s hs=>by
  obtain⟨hp,g,d,tk,os⟩:=s;have f1:=F.conv_sub_int;have f2:=F.madeHere_int;have hT:(⟨hp,g,d,tk,os⟩:Shared).TypeIs (.str "5" t) "str":=rfl;have f3:=gr;have f4:=di;have f5:=dj;repeat (any_goals (first | assumption | wp_step))
  rw[if_pos (by decide +kernel)];refine wpAny_bind (wpAny_pure ?_);dsimp only;refine rE (m':=mkInt 5) (by kernel_rfl) (wpAny_mkInt ?_);exact wpAny_pure ⟨_,rfl,hs⟩
theorem HN(t:Tok):Meets (Builtin.«int.__new__» ⟨[.type "int",.str "6" t],[]⟩) (Made.int 6).spec:=
 Meets.of_wp fun prog w A R s hs=>by
  obtain⟨hp,g,d,tk,os⟩:=s;have f1:=F.conv_sub_int;have f2:=F.madeHere_int;have hT:(⟨hp,g,d,tk,os⟩:Shared).TypeIs (.str "6" t) "str":=rfl;have f3:=gr;have f4:=di;have f5:=dj;repeat (any_goals (first | assumption | wp_step))
  rw[if_pos (by decide +kernel)];refine wpAny_bind (wpAny_pure ?_);dsimp only;refine rE (m':=mkInt 6) (by kernel_rfl) (wpAny_mkInt ?_);exact wpAny_pure ⟨_,rfl,hs⟩
def EG(x:Str):Option Int:=([("1",1),("2",2),("3",3),("4",4),("5",5),("6",6)]:List (Str×Int)).lookup x
def rF:SpD:=fun ds M Q=>match ds with
 |[.str x]=>optD (EG x) fun n=>Q (.int n) M
 |ds=>dInt ds M Q
theorem HP {prog:Program} {w:World} {A:Around} {Z:Value->Shared->Prop} {s:Shared} {x:Str} {n:Int} {t:Tok} {Q:Value->Shared->Prop} (h:EG x = some n) (q:Q (.int n s.toks) { s with toks:=s.toks + 1 }) :
  wpAny (model prog w) A (call (.type "int") [.str x t]) Q Z s:=by
 unfold EG at h
 simp only [List.lookup_cons] at h
 split at h
 ·rename_i e; cases h; obtain rfl:=eq_of_beq e; exact call_int_1 (HI t) (show (Made.int 1).post _ s from ⟨rfl,q⟩)
 split at h
 ·rename_i e; cases h; obtain rfl:=eq_of_beq e; exact call_int_1 (HJ t) (show (Made.int 2).post _ s from ⟨rfl,q⟩)
 split at h
 ·rename_i e; cases h; obtain rfl:=eq_of_beq e; exact call_int_1 (HK t) (show (Made.int 3).post _ s from ⟨rfl,q⟩)
 split at h
 ·rename_i e; cases h; obtain rfl:=eq_of_beq e; exact call_int_1 (HL t) (show (Made.int 4).post _ s from ⟨rfl,q⟩)
 split at h
 ·rename_i e; cases h; obtain rfl:=eq_of_beq e; exact call_int_1 (HM t) (show (Made.int 5).post _ s from ⟨rfl,q⟩)
 split at h
 ·rename_i e; cases h; obtain rfl:=eq_of_beq e; exact call_int_1 (HN t) (show (Made.int 6).post _ s from ⟨rfl,q⟩)
 cases h
theorem Ka{X:Cx}:ik X (.type "int") rF:=by
 intro ds vs H M Q r rm h;unfold rF at h;split at h
 ·rename_i x
  obtain⟨n,e,q⟩:=aT h;obtain⟨v,rfl,r1⟩:=rvs1 r;cases RV.str_.1 r1;intro pins s ρ us I rv;obtain⟨u,rfl,t,rfl⟩:=vals1 rv;exact HP e ⟨.int n,H,I.tok _,⟨_,rfl⟩,aA (RV.int_.2 rfl) rm q⟩
 ·exact LK _ _ _ _ _ r rm h
end DD
namespace DD
open PySem PySem.Spec PyProof.Rows L2
section
variable {X : Cx} {H : Hp} {pos : Pos} {e : Expr} {es : List Expr}
inductive Bj where
 |int
 deriving DecidableEq
def dBj:Bj->SpD
 |.int=>rF
def uO:Bj->Str
 |.int=>"int"
theorem LQ(b:Bj)(hc:X.calm=true){t:WA}{p:Pos}(hg:Gl X (uO b))(hm:X.mg (uO b)=none)(hs:aw e=true)(hss:es.all aw=true)(ha:PAd X (e::es) t):PEd X (.Call (.Name (uO b) p) (e::es) [] pos) (ij (dBj b) t):=by
 cases b with
 |int=>exact ox Ka hg hm (by decide +kernel) (by decide) (by decide) hs hss ha
end
end DD
namespace DD
open PySem PySem.Spec PyProof.Rows L2
def fO(a:Int)(n:Nat):List V:=(List.range n).map fun(i:Nat)=>.int (a+(i:Int))
theorem EH(a:Int)(n:Nat):(fO a n).length=n:=by unfold fO;rw[List.length_map,List.length_range]
theorem rG{K:PySem.W.Frag}{H:Hp}{α:Type}{f:α->D}{g:α->V}(h:∀x,RV K H (f x) (g x)):∀(l:List α),RVs K H (l.map f) (l.map g)
 |[]=>.nil
 |x::l=>.cons (h x) (rG h l)
theorem HQ{K:PySem.W.Frag}{H:Hp}(a b:Int):RVs K H (bo a b) (fO a (b-a).toNat):=rG (fun _=>RV.int_.2 rfl) _
theorem uP:∀(its:List Value) (a:Int),(∀(j:Nat) v,its[j]?=some v->∃t,v=Value.int (a+j*1) t)->Vals (fO a its.length) its
 |[],_,_=>.nil
 |u::its,a,h=>by
  have e:fO a (u::its).length=.int a::fO (a+1) its.length:=by
   unfold fO;rw[List.length_cons,List.range_succ_eq_map,List.map_cons,List.map_map];congr 1
   ·simp
   ·refine List.map_congr_left fun i _=>?_
    show V.int (a+((i+1:Nat):Int))=V.int (a+1+(i:Int));congr 1;omega
  rw[e];refine .cons ?_ (uP its (a+1) fun j v e=>?_)
  ·obtain⟨t,e⟩:=h 0 u rfl
   exact⟨t,by rw[e];simp⟩
  ·obtain⟨t,e2⟩:=h (j+1) v (by simpa using e)
   refine⟨t,?_⟩;rw[e2];congr 1;omega
def rngD(ds:List D)(Q:List D->Prop):Prop:=match ds with
 |[.int j]=>(-1000000<j/\j<1000000)/\Q (bo 0 j)
 |[.int i,.int j]=>(-1000000<i/\i<1000000/\-1000000<j/\j<1000000)/\Q (bo i j)
 |_=>False
def wLrg(t:WA):WE:=fun σ M Q=>t σ M fun ds M1=>rngD ds fun xs=>∀p,M1 p=none->Q (.ref p) (updM M1 p (.lst xs))
end DD
namespace DD
open PySem PySem.Spec PyProof.Rows L2
section
variable {X : Cx} {H : Hp} {pos : Pos} {e : Expr} {es : List Expr}
theorem Ge{pins:List (Addr×Obj)}{ρ:L2.St}{s:Shared}{lo hi:Int}{t u v:Tok}{tk:Nat}{M:MH}{H0:Hp}{Q:DK}(hc:X.calm=true)(I:Inv X pins ρ H s)(k0:Kp H0 H)(rm:RM X.K M H)(h1:-1000000<lo)(h2:lo<1000000)(h3:-1000000<hi)(h4:hi<1000000)
  (q:∀p,M p=none->Q (.ref p) (updM M p (.lst (bo lo hi)))):
  wpAny (model X.prog X.w) X.A (call (.type "list") [.ref s.heap.objs.size]) (EP X pins ρ (lift X.K H0 Q)) X.xe { s with heap:=s.heap.push { cls:=.type "range",data:=.fields #[.int lo t,.int hi u,.int 1 v] },toks:=tk }:=by
 have I1:Inv X pins ρ H { s with heap:=s.heap.push { cls:=.type "range",data:=.fields #[.int lo t,.int hi u,.int 1 v] },toks:=tk }:=I.kept fun b o e=>Heap.get?_push_of_some _ e
 refine call_list_range (s:={ s with heap:=s.heap.push { cls:=.type "range",data:=.fields #[.int lo t,.int hi u,.int 1 v] },toks:=tk }) (n:=(hi-lo).toNat) (I.ok.hd hc) (IsRange.new ..) (small_one (by omega) (by omega) (by omega) (by omega))
  (by rw[rangeSize_one];split<;>omega) (by omega) fun h' tk' acc c' hk he hi'=>?_
 obtain⟨hs,hi'⟩:=hi';have hl:acc.toList.length=(hi-lo).toNat:=by rw[←hs];simp
 have hv:Vals (fO lo (hi-lo).toNat) acc.toList:=by
  rw[←hl];refine uP acc.toList lo fun j w e=>?_
  exact hi' j w (by rw[←Array.getElem?_toList];exact e)
 have hf:H (s.heap.push { cls:=.type "range",data:=.fields #[.int lo t,.int hi u,.int 1 v] }).objs.size=none:=I1.hok.fresh (Nat.le_refl _);have k:=Kp.new (o:=.lst (fO lo (hi-lo).toNat)) hf;have hz:(fO lo (hi-lo).toNat).length<=sizeLine:=by
  rw[EH];have:(2000000:Nat)<=sizeLine:=by decide
  omega
 exact⟨.ref _,_,I1.laid (t':=tk') hk (Nat.le_refl _) (show aY X.prog X.w _ h' _ (.lst (fO lo (hi-lo).toNat)) from⟨hz,acc.toList,c',hv,by simpa using he⟩),rfl,k0.trans k,.ref _,_,RV.ref_.2 rfl,rm.new (m:=.lst (bo lo hi)) hf ⟨_,aC,HQ _ _⟩,q _ (rm.fresh hf)⟩
theorem HR{a:Expr}{t:WA}{p p2 pos2:Pos}(hc:X.calm=true)(hg:Gl X "list")(hm:X.mg "list" = none)(hg2:Gl X "range")(hm2:X.mg "range" = none)(ha:PAd X [a] t)(hs:aw a=true):
  PEd X (.Call (.Name "list" p) [.Call (.Name "range" p2) [a] [] pos2] [] pos) (wLrg t):=by
 intro σ M ρ H Q rs rm q pins s I;refine Call_ (fL I hg hm (by decide +kernel:bootBuiltins "list" = some (.type "list")) (PyProof.Rows.callWith_type1 (args_cons (Call_ (fL I hg2 hm2 boot_range (PyProof.Rows.callWith_type1 (thn (ha σ M ρ H _ rs rm q _ pins s I) fun us s1 zz1=>?_) (bh hs) rfl)))) rfl rfl));obtain⟨vs,H1,I1,r1,⟨k1,ds,M1,r2,l2,m1,q1⟩⟩:=zz1;unfold rngD at q1;dsimp only at q1;split at q1
 ·obtain⟨v,rfl,r3⟩:=rvs1 r2
  cases RV.int_.1 r3;obtain⟨u,rfl,ru⟩:=vals1 r1;obtain⟨t,rfl⟩:=ru;obtain⟨⟨b1,b2⟩,q1⟩:=q1;refine call_range_1 (args_nil ?_);exact Ge hc I1 k1 m1 (by decide) (by decide) b1 b2 q1
 ·rename_i i j
  exact absurd l2 (by simp)
 ·exact False.elim q1
theorem HS{a b:Expr}{t:WA}{p p2 pos2:Pos}(hc:X.calm=true)(hg:Gl X "list")(hm:X.mg "list" = none)(hg2:Gl X "range")(hm2:X.mg "range" = none)(ha:PAd X [a,b] t)(hs:aw a=true)(hs2:aw b=true):
  PEd X (.Call (.Name "list" p) [.Call (.Name "range" p2) [a,b] [] pos2] [] pos) (wLrg t):=by
 intro σ M ρ H Q rs rm q pins s I;refine Call_ (fL I hg hm (by decide +kernel:bootBuiltins "list" = some (.type "list")) (PyProof.Rows.callWith_type1 (args_cons (Call_ (fL I hg2 hm2 boot_range (PyProof.Rows.callWith_type1 (thn (ha σ M ρ H _ rs rm q _ pins s I) fun us s1 zz2=>?_) (bh hs) (dN (by rw[List.all_cons,hs2];rfl)))))) rfl rfl));obtain⟨vs,H1,I1,r1,⟨k1,ds,M1,r2,l2,m1,q1⟩⟩:=zz2;unfold rngD at q1;dsimp only at q1;split at q1
 ·exact absurd l2 (by simp)
 ·obtain⟨v,w',rfl,r3,r4⟩:=rvs2 r2
  cases RV.int_.1 r3;cases RV.int_.1 r4;obtain⟨u,u',rfl,ru,ru'⟩:=r1.two;obtain⟨t,rfl⟩:=ru;obtain⟨t',rfl⟩:=ru';obtain⟨⟨b1,b2,b3,b4⟩,q1⟩:=q1;refine call_range_2 (args_nil ?_);exact Ge hc I1 k1 m1 b1 b2 b3 b4 q1
 ·exact False.elim q1
structure IsiOk (K:PySem.W.Frag) (C D:Addr) (b:Bool):Prop where
 cl:Cls K C
 ha:PySem.W.findIn K (.ref C) "__class__" = some (some (.builtin "object.__class__"))
 hn:PySem.W.specialIn K (.builtin "object.__class__") "__get__" = some (some (.builtin "getset_descriptor.__get__"))
 ht:PySem.W.takesIn K (.builtin "object.__class__")=some true
 hm:PySem.W.mroIn K C (.type "object")=some true
 ki:PySem.W.kitOne K (.ref C) (.ref D)=some b
abbrev IS0:=Addr->Addr->Option Bool
end
end DD
namespace DD
open PySem PySem.Spec PyProof.Rows L2
section
variable {prog : Program} {w : World} {A : Around} {E : Value -> Shared -> Prop} {s : Shared} {κ : Type} [DecidableEq κ] {knd : KeyKind prog w κ}
abbrev zx(knd:KeyKind prog w κ)(kvs:List (κ×Value)):Nat->Value->Prop:=fun i v=>∃k x,kvs[i]?=some (k,x)/\knd.is k v=true
theorem Gf{d:Addr}{kvs:List (κ×Value)}{ep:Nat}{Q:Bool->Shared->Prop}(hd:(d==sysModules)=false)(hm:s.heap.DictAt knd d kvs ep)(hl:kvs.length<=2 ^ 24)(h:∀b tk,Q b { s with toks:=tk }):
  wpAny (model prog w) A (Builtin.List.listLengthHint (.ref d)) Q E s:=by
 have hT:s.TypeIs (.ref d) "dict":=hm.dictOf.typeIs;unfold Builtin.List.listLengthHint;refine wpAny_bind (wpAny_specialOf hT F.slot_dict_len.lookup ?_);generalize hid:("dict.__len__" : String)=id0;wp_delta;rw[show splitId id0=some ("dict", "__len__") from by subst hid;decide +kernel];subst hid;refine wpAny_bind (wpAny_isInstance (T:="dict") (b:=true) hT (by rw[isSubtype_type];kernel_rfl) ?_);refine wpAny_ite_split (fun hab=>absurd hab (by decide)) (fun _=>?_);refine wpAny_ite_split (fun _=>?_) (fun hab=>absurd (by decide +kernel) hab);refine wpAny_bind (wpAny_typeOf hT ?_);exact wpAny_pure (h false s.toks)
theorem sJ{R:Result->Shared->Prop}{d:Addr}{kvs:List (κ×Value)}{ep:Nat}(hh:A.handled=none)(hd:(d==sysModules)=false)(hm:s.heap.DictAt knd d kvs ep)(hl:kvs.length<=2 ^ 24)(S:Addr)(res:Value)(c₀:Nat)
  (hS:s.heap.get? S=some { cls:=.type "list",data:=.seq #[] c₀ })
  (hR:∀h' tk acc c',(∀b o,b≠S->s.heap.get? b=some o->h'.get? b=some o)->h'.get? S=some { cls:=.type "list",dict:=none,data:=.seq acc c',slots:=#[] }->ItemsOf (zx knd kvs) acc kvs.length->R (.ok (.ret res)) { s with heap:=h',toks:=tk }):
  wpAny (model prog w) A.in1 (Builtin.List.listExtendWith (.ref S) (.ref d) res)
   (fun fin s'=>match fin with
    |.done f=>R (.ok f) s'
    |.again c'=>c'.quiet=true/\codeAny (model prog w) A c' R s') (fun e s'=>R (.error e) s') s:=by
 have hT:s.TypeIs (.ref d) "dict":=hm.dictOf.typeIs;have hSd:S≠d:=fun e=>by
  obtain⟨o,es,ho,_,hdat,_⟩:=id hm;rw[e,ho] at hS;cases hS;cases hdat
 have hdI:d≠s.heap.objs.size:=Nat.ne_of_lt hm.lt_size;have hSI:S≠s.heap.objs.size:=Nat.ne_of_lt (Heap.lt_size hS);have W:=(Walks.dictKeys (prog:=prog) (w:=w) (A:=A.in1) (knd:=knd) hh s.heap.objs.size d hdI kvs ep).toS;have go:∀(h:Heap) (c₁ tk:Nat),h.IsKeyIter s.heap.objs.size d 0 kvs.length ep->(∀b o,b≠S->s.heap.get? b=some o->h.get? b=some o)->h.get? S=some { cls:=.type "list",data:=.seq #[] c₁ } ->
   codeAny (model prog w) A (.builtin "list.extend.loop" ⟨[.ref S,.ref s.heap.objs.size,res],[]⟩) R { s with heap:=h,toks:=tk }:=by
  intro h c₁ tk hit hk hS₁;refine codeAny_extend_loopS W (by rw[sizeLine_eq];omega) S (by simp;exact⟨hSI,hSd⟩) res kvs.length 0 _ #[] c₁ rfl (Nat.zero_le _) ⟨hit,hm.at' fun o e=>hk d o (Ne.symm hSd) e⟩ hS₁ (ItemsOf.nil _) fun s' acc c' mv hS' hacc=>?_
  rw[Moved.eq_with mv];refine hR s'.heap s'.toks acc c' (fun b o hb e=>mv.heap b o (fun hmem=>?_) (hk b o hb e)) hS' hacc;rcases List.mem_cons.mp hmem with e' | e'
  ·exact hb e'
  ·exact absurd (Heap.lt_size e) (by rw[List.mem_singleton.mp e'];exact Nat.lt_irrefl _)
 unfold Builtin.List.listExtendWith;refine wpAny_bind (wpAny_typeOf hT ?_);have n1:Builtin.List.listSameRef (.ref S) (.ref d)=false:=by simp[Builtin.List.listSameRef,hSd]
 simp only[n1,show(Value.type "dict" == Value.type "list")=false by decide,show(Value.type "dict" == Value.type "tuple")=false by decide,Bool.or_false,Bool.false_eq_true,if_false];refine wpAny_bind (wpAny_pyIter_dict hd hm ?_);refine wpAny_bind (wpAny_holding (Gf hd (hm.push _) hl fun b tk=>?_));have it1:(s.heap.push { cls:=.type "dict_keyiterator",data:=.fields #[.ref d,.int 0 0,.int kvs.length 0,.int ep 0] }).IsKeyIter s.heap.objs.size d 0 kvs.length ep:=⟨_,Heap.get?_push_size _ rfl,rfl,rfl⟩;have s1:=Heap.get?_push_of_some { cls:=.type "dict_keyiterator",data:=.fields #[.ref d,.int 0 0,.int kvs.length 0,.int ep 0] } hS;refine wpAny_ite_split (fun _=>?_) (fun _=>wpAny_pure ⟨plainId_quiet F.plain_extend_loop _,go _ c₀ _ it1 (fun b o _ e=>Heap.get?_push_of_some _ e) s1⟩);refine wpAny_bind (wpAny_rule (wpAny_bind ?_));show wpAny _ _ (updateSeq S (·.push .none) >>= fun _=>updateSeq S (·.pop)) _ _ _;refine wpAny_bind (wpAny_updateSeq s1 rfl ?_);have s2:=Heap.get?_update_self (Obj.mapSeq (·.push Value.none)) s1 rfl;refine wpAny_updateSeq (hz:=by seq_fits) s2 rfl ?_;have s3:=Heap.get?_update_self (Obj.mapSeq (·.pop)) s2 rfl;have oth:∀b,b≠S->∀f g:Obj->Obj,∀h:Heap,((h.update S f).update S g).get? b=h.get? b:=fun b hb f g h=>(Heap.get?_update_other _ _ (Ne.symm hb)).trans (Heap.get?_update_other _ _ (Ne.symm hb))
 refine wpAny_pure ⟨plainId_quiet F.plain_extend_loop _,go _ _ _ ?_ (fun b o hb e=>(oth b hb _ _ _).trans (Heap.get?_push_of_some _ e)) s3⟩;exact it1.at fun o e=>(oth _ (Ne.symm hSI) _ _ _).trans e
end
end DD
namespace DD
open PySem PySem.Spec PyProof.Rows L2
section
variable {prog : Program} {w : World} {A : Around} {E : Value -> Shared -> Prop} {s : Shared} {κ : Type} [DecidableEq κ] {knd : KeyKind prog w κ}
theorem list_dict{Q:Value->Shared->Prop}{d:Addr}{kvs:List (κ×Value)}{ep:Nat}(hh:A.handled=none)(hd:(d==sysModules)=false)(hm:s.heap.DictAt knd d kvs ep)(hl:kvs.length<=2 ^ 24)
  (hQ:∀h' tk acc c',(∀b o,s.heap.get? b=some o->h'.get? b=some o)->h'.get? s.heap.objs.size=some { cls:=.type "list",dict:=none,data:=.seq acc c',slots:=#[] }->ItemsOf (zx knd kvs) acc kvs.length ->
   Q (.ref s.heap.objs.size) { s with heap:=h',toks:=tk }):wpAny (model prog w) A (call (.type "list") [.ref d]) Q E s:=by
 refine callType_codes (Q₁:=fun obj s₁=>obj=.ref s.heap.objs.size/\s₁={ s with heap:=s.heap.push { cls:=.type "list",data:=.seq #[] } }) F.called_list (F.typeCall_list_1 _) F.entry_list_init (code_list_new _ ⟨rfl,rfl⟩) fun obj s₁ h₁=>?_
 obtain⟨rfl,rfl⟩:=h₁;have p0:(s.heap.push { cls:=.type "list",data:=.seq #[] }).get? s.heap.objs.size=some { cls:=.type "list",data:=.seq #[] }:=Heap.get?_push_size _ rfl;refine⟨⟨_,p0,rfl⟩,F.args_list_init_2 _ _,?_⟩;show wpAny _ _ (do let old ←Builtin.List.listItems (.ref s.heap.objs.size);Builtin.List.listUpdate (.ref s.heap.objs.size) (fun _=>#[]);letGo old.toList.reverse;Builtin.List.listExtendWith (.ref s.heap.objs.size) (.ref d) .none) _ _ _;refine wpAny_bind ?_;unfold Builtin.List.listItems;refine wpAny_bind (wpAny_seqItems p0 rfl (wpAny_pure ?_));show wpAny _ _ (updateSeq s.heap.objs.size (fun _=>#[]) >>= fun _=>letGo (#[]:Array Value).toList.reverse >>= fun _=>Builtin.List.listExtendWith (.ref s.heap.objs.size) (.ref d) .none) _ _ _;refine wpAny_bind (wpAny_updateSeq p0 rfl ?_);have p1:=Heap.get?_update_self (Obj.mapSeq (fun _=>(#[]:Array Value))) p0 rfl;have nd:d≠s.heap.objs.size:=Nat.ne_of_lt hm.lt_size;have m1:((s.heap.push { cls:=.type "list",data:=.seq #[] }).update s.heap.objs.size (Obj.mapSeq (fun _=>(#[]:Array Value)))).DictAt knd d kvs ep:=(hm.push _).at' fun o e=>(Heap.get?_update_other _ _ (Ne.symm nd)).trans e
 refine wpAny_bind (wpAny_letGo ?_);refine sJ (A:=A.in1) (s:={ s with heap:=(s.heap.push { cls:=.type "list",data:=.seq #[] }).update s.heap.objs.size (Obj.mapSeq (fun _=>(#[]:Array Value))) }) hh hd m1 hl s.heap.objs.size .none _ p1 ?_;intro h' tk acc c' hk hS hacc;refine⟨rfl,hQ h' tk acc c' (fun b o e=>hk b o (Nat.ne_of_lt (Heap.lt_size e)) ?_) hS hacc⟩;exact(Heap.get?_update_other _ _ (Ne.symm (Nat.ne_of_lt (Heap.lt_size e)))).trans (Heap.get?_push_of_some _ e)
theorem z9{Q:List Value->Shared->Prop}{d:Addr}{kvs:List (κ×Value)}{ep:Nat}(hh:A.handled=none)(hd:(d==sysModules)=false)(hm:s.heap.DictAt knd d kvs ep)(hl:kvs.length<=2 ^ 24)
  (hQ:∀h' tk acc,(∀b o,s.heap.get? b=some o->h'.get? b=some o)->s.heap.objs.size<h'.objs.size->ItemsOf (zx knd kvs) acc kvs.length->Q acc.toList { s with heap:=h',toks:=tk }):wpAny (model prog w) A (collect (.ref d)) Q E s:=by
 have go:∀R:Result->Shared->Prop,(∀h' tk acc c',(∀b o,s.heap.get? b=some o->h'.get? b=some o)->h'.get? s.heap.objs.size=some { cls:=.type "list",dict:=none,data:=.seq acc c',slots:=#[] }->ItemsOf (zx knd kvs) acc kvs.length ->
   R (.ok (.ret (.ref s.heap.objs.size))) { s with heap:=h',toks:=tk })->codeAny (model prog w) A (.builtin "list.__iadd__" ⟨[.ref s.heap.objs.size,.ref d],[]⟩) R { s with heap:=s.heap.push (seqObj "list" #[] 0) }:=by
  intro R hR;refine codeAny_builtin entry_list_iadd' ?_;show wpAny _ _ (Builtin.List.listExtendWith (.ref s.heap.objs.size) (.ref d) (.ref s.heap.objs.size)) _ _ { s with heap:=s.heap.push (seqObj "list" #[] 0) };rw[Around.under_plainId (id:="list.__iadd__") (by decide +kernel)];refine sJ (A:=A) (R:=R) (s:={ s with heap:=s.heap.push (seqObj "list" #[] 0) }) hh hd (hm.push _) hl s.heap.objs.size _ 0 (Heap.get?_push_size _ rfl) ?_;intro h' tk acc c' hk hS hacc;exact hR h' tk acc c' (fun b o e=>hk b o (Nat.ne_of_lt (Heap.lt_size e)) (Heap.get?_push_of_some _ e)) hS hacc
 unfold collect;refine wpAny_bind (wpAny_runValue (codeAny_builtin entry_proto_collect' ?_));show wpAny _ _ (do again (.builtin "list.__iadd__" ⟨[←newList [],.ref d],[]⟩)) _ _ s;refine wpAny_bind (wpAny_newList (wpAny_pure ⟨Code.quiet_builtin _ (by decide +kernel),go _ fun h' tk acc c' hk hS hacc=>?_⟩));refine wpAny_bind (wpAny_load hS ?_);exact wpAny_pure (hQ h' tk acc hk (Heap.lt_size hS) hacc)
theorem DQ:∀{vs:List Value}{ms:List Int},vs.length=ms.length->(∀(i:Nat) (v:Value) (n:Int),vs[i]?=some v->ms[i]?=some n->∃t,v=Value.int n t)->IntsAre vs ms
 |[],[],_,_=>.nil
 |[],_::_,h,_=>by cases h
 |_::_,[],h,_=>by cases h
 |v::vs,n::ms,h,g=>by
  obtain⟨t,rfl⟩:=g 0 v n rfl rfl;exact .cons n t (DQ (by simpa using h) fun i v m a b=>g (i+1) v m (by simpa using a) (by simpa using b))
theorem EI {it:Value} {vs:List Value} {ns:List Int} {h':Heap} {tk:Nat} {Q:Value->Shared->Prop} (hI:IntsAre vs ns) (h64:vs.length < 64)
  (h:∀ (out:Array Value) (ns':List Int),IntsAre out.toList ns'->ns'.Perm ns->ns'.Pairwise (·<=·)->Q (.ref h'.objs.size) { s with heap:=sortedHeap (h'.push (seqObj "list" vs.toArray 0)) h'.objs.size vs out,toks:=tk }) :
  wpAny (model prog w) A.in1 (do
   let l ← newList vs
   let _ ← holding [l] (call (.builtin "list.sort") [l] [])
   ret l) (fun fin s'=>∃ v,fin = Fin.done (.ret v)/\Q v s') E { s with heap:=h',toks:=tk }:=by
 refine wpAny_bind (wpAny_newList ?_)
 have p0:(h'.push (seqObj "list" vs.toArray 0)).get? h'.objs.size = some (seqObj "list" vs.toArray 0):=Heap.get?_push_size _ rfl
 show wpAny _ _ _ _ _ { s with heap:=h'.push (seqObj "list" vs.toArray 0),toks:=tk }
 refine wpAny_bind (wpAny_holding (wpAny_call_entry slot_list_sort ⟨_,p0,rfl⟩ entry_list_sort (list_sort_tree p0 hI h64 fun out ns' a1 a2 a3=>⟨_,rfl,?_⟩) (args_list_sort _)))
 exact wpAny_pure ⟨_,rfl,h out ns' a1 a2 a3⟩
end
end DD
namespace DD
open PySem PySem.Spec PyProof.Rows L2
def intKeys:List (Key×D)->Option (List Int)
 |[]=>some []
 |(.inl i,_)::r=>(intKeys r).map (i :: ·)
 |_=>none
theorem sK:∀{kvs:List (Key×D)}{ns:List Int},intKeys kvs=some ns->kvs.map (·.1)=ns.map Sum.inl
 |[],ns,h=>by cases h;rfl
 |(.inl i,d)::r,ns,h=>by
  rw[intKeys] at h;cases q:intKeys r with
  |none=>rw[q] at h;cases h
  |some ms=>rw[q] at h;cases h;rw[List.map_cons,List.map_cons,sK q]
 |(.inr x,d)::r,ns,h=>by cases h
def rH(ns:List Int)(M:MH)(Q:DK):Prop:=ns.length<64/\∀(p:Addr) (ms:List Int),M p=none->ms.Perm ns->ms.Pairwise (·<=·)->Q (.ref p) (updM M p (.lst (ms.map .int)))
def lQ:SpD:=fun ds M Q=>match ds with
 |[.ref a]=>match rdL (M a) with
  |some xs=>optD (j5 xs) fun ns=>rH ns M Q
  |none=>optD (rdD (M a)) fun kvs=>optD (intKeys kvs) fun ns=>rH ns M Q
 |_=>False
theorem qh:∀{us:List Value}{ms:List Int},IntsAre us ms->Vals (ms.map V.int) us
 |_,_,.nil=>.nil
 |_,_,.cons n t r=>.cons ⟨t,rfl⟩ (qh r)
theorem qi:∀{ms:List Int}{us:List Value},Vals (ms.map V.int) us->IntsAre us ms
 |[],_,h=>by cases h;exact .nil
 |n::ms,_,h=>by
  cases h with
  |cons r t=>
   obtain⟨tk,rfl⟩:=r;exact .cons n tk (qi t)
section
variable {X : Cx} {H : Hp}
theorem Aa{pins:List (Addr×Obj)}{ρ:L2.St}{s:Shared}{M:MH}{Q:DK}{ns ms:List Int}{h':Heap}{tk:Nat}{p:Addr}{out:Array Value}{e:Nat}(I:Inv X pins ρ H s)(rm:RM X.K M H)(q:rH ns M Q)(k:∀b o,s.heap.get? b=some o->h'.get? b=some o)(hp:s.heap.objs.size<=p)
  (ho:h'.get? p=some (seqObj "list" out e)) (a1:IntsAre out.toList ms) (a2:ms.Perm ns) (a3:ms.Pairwise (·<=·)):EP X pins ρ (lift X.K H Q) (.ref p) { s with heap:=h',toks:=tk }:=by
 have hf:H p=none:=I.hok.fresh hp;have kk:=Kp.new (o:=.lst (ms.map V.int)) hf;have hz:(ms.map V.int).length<=sizeLine:=by
  rw[List.length_map,a2.length_eq];have:(64:Nat)<=sizeLine:=by decide
  have:=q.1
  omega
 exact⟨.ref p,_,I.laid (t':=tk) k hp (show aY X.prog X.w _ h' p (.lst (ms.map V.int)) from⟨hz,out.toList,e,qh a1,by simpa [seqObj] using ho⟩),rfl,kk,.ref p,_,RV.ref_.2 rfl,rm.new (m:=.lst (ms.map .int)) hf ⟨_,aC,rG (fun _=>RV.int_.2 rfl) ms⟩,q.2 p ms (rm.fresh hf) a2 a3⟩
theorem Gg(hc:X.calm=true):ik X (.builtin "sorted") lQ:=by
 intro ds vs H M Q r rm h;unfold lQ at h;split at h
 ·obtain⟨v,rfl,r1⟩:=rvs1 r
  cases RV.ref_.1 r1;split at h
  ·rename_i xs e1
   obtain⟨ns,e2,q⟩:=aT h;obtain⟨us,sq,rr⟩:=rm.list e1;obtain rfl:=tR e2 rr;intro pins s ρ ws I rv0;obtain⟨u,rfl,ru⟩:=vals1 rv0;cases ru;obtain⟨its,rv,pl,hz⟩:=I.list sq;have hl:its.length=ns.length:=by have:=rv.length;simpa using this.symm
   refine sorted_ints (vs:=its) pl.isList (qi rv) (by have:=q.1;omega) fun out ms a1 a2 a3=>?_
   obtain⟨e,ho⟩:=sortedAll_at s.heap its out;exact Aa (tk:=s.toks) I rm q (fun b o e=>sortedAll_old e) (Nat.le_succ _) ho a1 a2 a3
  ·obtain⟨kvs,e1,h⟩:=aT h
   obtain⟨ns,e2,q⟩:=aT h;obtain⟨kws,e3,e4,_⟩:=rm.dict e1;intro pins s ρ ws I rv0;obtain⟨u,rfl,ru⟩:=vals1 rv0;cases ru;obtain⟨hz,hd,xs,rel,dd⟩:=mC I.hok e3;obtain⟨ep,hm⟩:=dd.dictAt;have hk:xs.map (·.1)=ns.map Sum.inl:=by rw[←rel.keys,e4,sK e2]
   have hl:xs.length=ns.length:=by have:=congrArg List.length hk;simpa using this
   refine Calls.call_function_entry kind_sorted plain_sorted entry_sorted (args_sorted1 _) ?_;unfold Builtin.«sorted»;refine wpAny_bind (m:=checkCount "sorted" 1 1 _) (wpAny_pure ?_);refine wpAny_bind (z9 (A:=X.A.in1) (I.ok.hd hc) hd hm (by have:=q.1;omega) fun h' tk acc hkeep hsz hacc=>?_);obtain⟨hs,hacc⟩:=hacc;have hal:acc.toList.length=ns.length:=by rw[←hl,←hs];simp
   have hI:IntsAre acc.toList ns:=DQ hal fun i v n hv hn=>by
    obtain⟨k,x,hx,hi⟩:=hacc i v (by rw[←Array.getElem?_toList];exact hv);have hkn:k=Sum.inl n:=by
     have:=congrArg (fun l=>l[i]?) hk
     simp only[List.getElem?_map,hx,hn,Option.map_some] at this;cases this;rfl
    subst hkn;exact wW hi
   refine EI (s:=s) (A:=X.A) (it:=.none) hI (by have:=q.1;omega) fun out ms a1 a2 a3=>?_
   obtain⟨e,ho⟩:=sortedHeap_at (h:=h'.push (seqObj "list" acc.toList.toArray 0)) (a:=h'.objs.size) (vs:=acc.toList) (n:=0) (out:=out) (Heap.get?_push_size _ rfl);refine Aa I rm q (fun b o e=>?_) (Nat.le_of_lt hsz) ho a1 a2 a3;have h1:=hkeep b o e;have hb:b<h'.objs.size:=Heap.lt_size h1;rw[sortedHeap_old (Nat.ne_of_lt hb) (by rw[Heap.size_push];exact Nat.lt_succ_of_lt hb)];exact Heap.get?_push_of_some _ h1
 ·exact False.elim h
def iY:SpD:=fun ds M Q=>match ds with
 |[.ref a]=>match rdD (M a) with
  |some kvs=>∀p,M p=none->Q (.ref p) (updM M p (.lst (keysOf kvs)))
  |none=>uG ds M Q
 |ds=>uG ds M Q
theorem yf{P:Program}{w:World}:∀{xs:List (Key×Value)}{us:List Value},us.length=xs.length->(∀(i:Nat) (v:Value) (k:Key) (x:Value),us[i]?=some v->xs[i]?=some (k,x)->(bm P w).is k v=true)->Vals (xs.map fun p=>kV p.1) us
 |[],[],_,_=>.nil
 |[],_::_,h,_=>by cases h
 |_::_,[],h,_=>by cases h
 |(k,x)::xs,u::us,h,g=>.cons (wW (g 0 u k x rfl rfl)) (yf (by simpa using h) fun i v k x a b=>g (i+1) v k x (by simpa using a) (by simpa using b))
theorem HU(hc:X.calm=true):ik X (.type "list") iY:=by
 intro ds vs H M Q r rm h;unfold iY at h;split at h
 ·rename_i a
  split at h
  ·rename_i kvs e1
   obtain⟨v,rfl,r1⟩:=rvs1 r;cases RV.ref_.1 r1;obtain⟨kws,e3,e4,_⟩:=rm.dict e1;intro pins s ρ ws I rv0;obtain⟨u,rfl,ru⟩:=vals1 rv0;cases ru;obtain⟨hz,hd,xs,rel,dd⟩:=mC I.hok e3;obtain⟨ep,hm⟩:=dd.dictAt;have hxl:xs.length=kws.length:=rel.length.symm;by_cases hbig:xs.length<=2 ^ 24
   ·refine list_dict (I.ok.hd hc) hd hm hbig fun h' tk acc c' hk hS hacc=>?_
    obtain⟨hs,hacc⟩:=hacc;have hv:Vals (xs.map fun p=>kV p.1) acc.toList:=yf (P:=X.prog) (w:=X.w) (by rw[←hs];simp) fun i v k x a b=>by
     obtain⟨k',x',hx,hi⟩:=hacc i v (by rw[←Array.getElem?_toList];exact a);rw[b] at hx;cases hx;exact hi
    have ek:(xs.map fun p=>kV p.1)=kws.map fun p=>kV p.1:=by
     have:=rel.keys
     have h2:(kws.map (·.1)).map kV=(xs.map (·.1)).map kV:=by rw[this]
     rw[List.map_map,List.map_map] at h2;exact h2.symm
    rw[ek] at hv;have hf:H s.heap.objs.size=none:=I.hok.fresh (Nat.le_refl _);have kk:=Kp.new (o:=.lst (kws.map fun p=>kV p.1)) hf;have rr:RVs X.K (upd H s.heap.objs.size (.lst (kws.map fun p=>kV p.1))) (keysOf kvs) (kws.map fun p=>kV p.1):=by
     have h2:keysOf kvs=(kws.map (·.1)).map kD:=by unfold keysOf;rw[e4,List.map_map];rfl
     have h3:(kws.map fun p=>kV p.1)=(kws.map (·.1)).map kV:=by rw[List.map_map];rfl
     rw[h2,h3];exact rG (fun k=>IG k) _
    exact⟨.ref s.heap.objs.size,_,I.laid (t':=tk) hk (Nat.le_refl _) (show aY X.prog X.w _ h' _ (.lst (kws.map fun p=>kV p.1)) from⟨by rw[List.length_map];exact hz,acc.toList,c',hv,by simpa using hS⟩),rfl,kk,.ref _,_,RV.ref_.2 rfl,rm.new (m:=.lst (keysOf kvs)) hf ⟨_,aC,rr⟩,h _ (rm.fresh hf)⟩
   ·exact absurd (by rw[hxl];rw[sizeLine_eq] at hz;omega) hbig
  ·exact DL _ vs H M Q r rm h
 ·exact DL _ vs H M Q r rm h
end
end DD
namespace DD
open PySem PySem.Spec PyProof.Rows L2
section
variable {X : Cx} {H : Hp} {pos : Pos} {e : Expr} {es : List Expr}
inductive Bk where
 |sorted | list
 deriving DecidableEq
def dBk:Bk->SpD
 |.sorted=>lQ
 |.list=>iY
def uQ:Bk->Str
 |.sorted=>"sorted"
 |.list=>"list"
theorem LR(b:Bk)(hc:X.calm=true){t:WA}{p:Pos}(hg:Gl X (uQ b))(hm:X.mg (uQ b)=none)(hs:aw e=true)(hss:es.all aw=true)(ha:PAd X (e::es) t):PEd X (.Call (.Name (uQ b) p) (e::es) [] pos) (ij (dBk b) t):=by
 cases b with
 |sorted=>exact kF (Gg hc) hg hm (by decide +kernel) (by decide) (by decide) hs hss ha
 |list=>exact ox (HU hc) hg hm (by decide +kernel) (by decide) (by decide) hs hss ha
end
end DD
namespace DD
open PySem PySem.Spec PyProof.Rows L2
section
variable {prog : Program} {w : World} {A : Around} {E : Value -> Shared -> Prop} {s : Shared}
theorem Ab{it t:Addr}{i:Nat}{items:Array Value}{x:Value}{Q:Value->Shared->Prop}(hit:s.heap.IsTupleIter it t i)(ht:s.heap.IsTuple t items)(hx:items[i]?=some x)
  (hQ:∀h',h'.IsTupleIter it t (i+1)->Heap.SameBut it s.heap h'->Q x { s with heap:=h' }):wpAny (model prog w) A (Builtin.SmallTypes.nextOf (.ref it)) Q E s:=by
 obtain⟨o,ho,hc,hd⟩:=id hit;obtain⟨ol,hol,_,nl,hdl⟩:=ht;unfold Builtin.SmallTypes.nextOf;refine wpAny_bind (wpAny_callSpecial?_slot (name:=Str.ofString "__next__") hit.typeIs F.slot_tuple_iterator_next (wpAny_call_entry F.slot_tuple_iterator_next hit.typeIs F.entry_tuple_iterator_next ?_ (F.args_tuple_iterator_next_1 _)));show wpAny _ _ (field (.ref it) 0 >>= _) _ _ s;refine wpAny_bind (wpAny_field ho hd (x:=.ref t) rfl ?_);show wpAny _ _ (if(Value.ref t==Value.none)=true then _ else _) _ _ s;rw[if_neg (show ¬((Value.ref t==Value.none)=true) from Bool.false_ne_true)];show wpAny _ _ (field (.ref it) 1 >>= _) _ _ s;refine wpAny_bind (wpAny_field ho hd (x:=.int i 0) rfl ?_);show wpAny _ _ (seqItems? (.ref t) >>= _) _ _ s;refine wpAny_bind (wpAny_seqItems hol hdl ?_);simp only[Int.toNat_natCast,hx];refine wpAny_bind (wpAny_setField ho hd (by simp) (wpAny_pure ⟨x,rfl,wpAny_pure (hQ _ ⟨_,Heap.get?_update_self _ ho (Obj.isFreed_of_fields (Obj.data_mapFields hd _)),(Obj.cls_mapFields ..).trans hc,?_⟩ (Heap.SameBut.update ..))⟩));rw[Obj.data_mapFields hd];simp[rawInt]
theorem tS{it t:Addr}{i:Nat}{items:Array Value}{Q:Value->Shared->Prop}(hh:A.handled=none)(hit:s.heap.IsTupleIter it t i)(ht:s.heap.IsTuple t items)(hx:items[i]?=none)
  (hE:∀h' e,Heap.ExtBut it s.heap h'->(∃o,h'.get? e=some o/\o.cls=.type "StopIteration")->E (.ref e) { s with heap:=h' }):wpAny (model prog w) A (Builtin.SmallTypes.nextOf (.ref it)) Q E s:=by
 obtain⟨o,ho,hc,hd⟩:=id hit;obtain⟨ol,hol,_,nl,hdl⟩:=ht;unfold Builtin.SmallTypes.nextOf;refine wpAny_bind (wpAny_callSpecial?_slot (name:=Str.ofString "__next__") hit.typeIs F.slot_tuple_iterator_next (wpAny_call_entry F.slot_tuple_iterator_next hit.typeIs F.entry_tuple_iterator_next ?_ (F.args_tuple_iterator_next_1 _)));show wpAny _ _ (field (.ref it) 0 >>= _) _ _ s;refine wpAny_bind (wpAny_field ho hd (x:=.ref t) rfl ?_);show wpAny _ _ (if(Value.ref t==Value.none)=true then _ else _) _ _ s;rw[if_neg (show ¬((Value.ref t==Value.none)=true) from Bool.false_ne_true)];show wpAny _ _ (field (.ref it) 1 >>= _) _ _ s;refine wpAny_bind (wpAny_field ho hd (x:=.int i 0) rfl ?_);show wpAny _ _ (seqItems? (.ref t) >>= _) _ _ s;refine wpAny_bind (wpAny_seqItems hol hdl ?_);simp only[Int.toNat_natCast,hx];refine wpAny_bind (wpAny_rule (wpAny_bind (wpAny_setField ho hd (by simp) ?_)));show wpAny _ _ (newExc (.type "StopIteration") [] >>= _) _ _ _;refine wpAny_bind ?_;simp only[newExc,newTuple];refine wpAny_bind (wpAny_newObj_type ?_ (by size_fits));refine wpAny_bind (m:=firstArgMember _ _) (wpAny_of_eq (a:=Value.none) (by first | rfl | (simp only[firstArgMember];rfl)) (wpAny_newObj_type ?_ (by size_fits)));simp only[raiseNew];refine wpAny_bind (wpAny_handled ?_);first | rw[show A.in1.handled=none from hh] | rw[hh]
 refine wpAny_bind (wpAny_pure (wpAny_throw (hE _ _ (((Heap.SameBut.update ..).extBut.push _).push _) ⟨_,Heap.get?_push_size _ rfl,rfl⟩)))
theorem sL(hh:A.handled=none)(it t:Addr)(hne:t≠it)(items:Array Value):Draws prog w A it [it,t] items.size (fun i v=>items[i]?=some v) (fun i h=>h.IsTupleIter it t i/\h.IsTuple t items) where
 live:=fun _ _ st=>let⟨o,ho,_⟩:=st.1;⟨o,ho⟩
 frame:=fun _ _ _ st hk=>⟨st.1.at fun o e=>hk it (by simp) o e,let⟨o,ho,r⟩:=st.2;⟨o,hk t (by simp) o ho,r⟩⟩
 item:=fun i s Q E hi st hQ=>Ab st.1 st.2 (x:=items[i]) (by simp[hi]) fun h' hit' hs'=>hQ _ h' s.toks (by simp[hi]) ⟨hit',st.2.extBut hs'.extBut hne⟩ hs'
 done:=fun s Q E st hE=>tS hh st.1 st.2 (by simp) hE
theorem Gh(l:Addr)(items:Array Value)(n:Nat)(dct:Option Addr)(sl:Array (Option Value)):
  Meets (Builtin.«enumerate.__new__» ⟨[.type "enumerate",.ref l],[]⟩) (fun _ R s=>s.heap.get? l=some { cls:=.type "tuple",dict:=dct,data:=.seq items n,slots:=sl } /\
   R (.ok (.ret (.ref (s.heap.push { cls:=.type "tuple_iterator",data:=.fields #[.ref l,.int 0 0] }).objs.size)))
    { s with heap:=(s.heap.push { cls:=.type "tuple_iterator",data:=.fields #[.ref l,.int 0 0] }).push { cls:=.type "enumerate",data:=.fields #[.none,.bool false,.ref s.heap.objs.size,rawInt 0,.none,.none] } }):=by
 refine .of_wp fun prog w A R s h=>?_
 obtain⟨hp,g,d,tk,os⟩:=s;obtain⟨hl,h⟩:=h;have hsub:=sub_enumerate;have hL:Heap.IsTuple (Shared.heap ⟨hp,g,d,tk,os⟩) l items:=⟨_,hl,rfl,n,rfl⟩;wp_walk using AutoSeq1.wpAny_loadPart' hl;refine wpAny_stack_any fun st=>wpAny_pure ?_
 split
 ·rename_i c _ _ _ _ _
  cases(c==Value.type "enumerate")<;>(wp_walk using AutoSeq1.wpAny_loadPart' hl,wpAny_pyIter_tuple hL;exact⟨_,rfl,h⟩)
 ·wp_walk using AutoSeq1.wpAny_loadPart' hl,wpAny_pyIter_tuple hL
  exact⟨_,rfl,h⟩
theorem EJ{l:Addr}{items:Array Value}{Q:Value->Shared->Prop}(hL:s.heap.IsTuple l items)
  (h:∀h',IsEnum h' (s.heap.objs.size+1) s.heap.objs.size 0 .none->h'.IsTupleIter s.heap.objs.size l 0->(∀b o,s.heap.get? b=some o->h'.get? b=some o)->Q (.ref (s.heap.objs.size+1)) { s with heap:=h' }):
  wpAny (model prog w) A (call (.type "enumerate") [.ref l]) Q E s:=by
 obtain⟨⟨c,dct,dt,sl⟩,hl,hc,n,hd⟩:=hL;obtain rfl:c=.type "tuple":=hc;obtain rfl:dt=.seq items n:=hd;refine callType_new F.called_enumerate (by decide) (F.typeCall_enumerate_1 _) (F.newCall_enumerate_1 _) (fun obj=>F.args_object_init_2 obj _) F.entry_enumerate_new (Gh l items n dct sl) ⟨hl,?_⟩;have hz:(s.heap.push { cls:=.type "tuple_iterator",data:=.fields #[.ref l,.int 0 0] }).objs.size=s.heap.objs.size+1:=Heap.size_push ..;show _/\_;rw[hz];have he:=Heap.get?_push_size (s.heap.push { cls:=.type "tuple_iterator",data:=.fields #[.ref l,.int 0 0] }) (o:={ cls:=.type "enumerate",data:=.fields #[.none,.bool false,.ref s.heap.objs.size,rawInt 0,.none,.none] }) rfl;rw[hz] at he;exact⟨⟨_,he,rfl⟩,h _ he ⟨_,Heap.get?_push_of_some _ (Heap.get?_push_size _ rfl),rfl,rfl⟩ fun b o x=>Heap.get?_push_of_some _ (Heap.get?_push_of_some _ x)⟩
end
end DD
namespace DD
open PySem PySem.Spec PyProof.Rows L2
section
variable {X : Cx} {pins : List (Addr × Obj)} {σ : L2.St} {H : Hp} {s : Shared} {h' : Heap}
theorem MM{fs ch:List Addr}{h:Heap}(k:∀b o,b∉ch->h.get? b=some o->h'.get? b=some o):Un fs ch H H h h' where
 keep:=fun b o e _ _ hc=>k b o hc e
 slot:=fun b o e _ _ hc=>⟨o.slots,k b o hc e⟩
 free:=fun _ _ _ n _=>n
 there:=fun b o e hc=>⟨o,k b o hc e⟩
 tups:=fun _ _ e=>e
 frzs:=fun _ _ _ e=>e
 tbls:=fun b ps e=>⟨#[],by rw[e];simp⟩
theorem LS{P:Program}{w:World}{ch:List Addr}{h:Heap}(ok:HOk P w H h)(k:∀b o,b∉ch->h.get? b=some o->h'.get? b=some o)(hn:∀b∈ch,H b=none):HOk P w H h':=fun b u e=>by
 have nit:∀c v,H c=some v->c∉ch:=fun c v ec z=>by rw[hn c z] at ec;cases ec
 refine(ok b u e).stay (fun c v hc q=>k c v ?_ q) (fun _ q=>q) fun _ _ q=>q
 rcases hc with z | z
 ·rw[z];exact nit b u e
 ·exact nit c _ z
theorem Inv.turnedT{ch:List Addr}{T:Addr}{xs:List V}{its:List Value}{tk:Nat}(I:Inv X pins σ H s)(k:∀b o,b∉ch->s.heap.get? b=some o->h'.get? b=some o)(hn:∀b∈ch,H b=none)
  (hch:∀b∈ch,(b∈X.ex\/X.s₀.heap.objs.size<=b)/\b≠X.env.locals/\(∀x c,X.env.cells.lookup x=some c->c≠b)/\∀p∈X.pn++pins,p.1≠b) (hT:s.heap.objs.size<=T) (r:Vals xs its) (hz:xs.length<=sizeLine) (ht:IsTup h' T its.toArray):
  Inv X pins σ (upd H T (.tup xs)) { s with heap:=h',toks:=tk }:=by
 have hf:H T=none:=I.hok.fresh hT;have ok1:=LS I.hok k hn;refine I.call (g':=s.gens) (d':=s.drawn) (t':=tk) (Un.track (MM k) hT hf) (fun b u e=>?_) I.bare hch;by_cases hb:b=T
 ·subst hb
  rw[aC] at e;cases e;exact⟨hz,its,r,ht⟩
 ·rw[aI hb] at e
  refine(ok1 b u e).stay (fun c v _ q=>q) (fun c q=>?_) fun c ys q=>?_
  ·rw[aI (ba q hf)];exact q
  ·rw[aI (ba q hf)];exact q
end
def Ite(K:PySem.W.Frag)(a:Addr):It:=
 ⟨fun i H=>∃xs x,SqL K H a xs/\xs[i]?=some x,fun i H x H'=>∃v p,(∀xs,SqL K H a xs->xs[i]?=some v)/\H p=none/\H'=upd H p (.tup [.int (i:Int),v])/\x=.ref p,fun i H=>∃xs,SqL K H a xs/\xs.length<=i⟩
theorem Gi{P:Program}{w:World}{K:PySem.W.Frag}{elts:List Expr}{kk:Nat}{tp:Pos}(a e it:Addr)(hei:e≠it):Turn P w K (.Tuple elts kk tp) (Ite K a) [e,it] e (fun i h=>(∃old,IsEnum h e it i old)/\h.IsListIter it a i) where
 mem:=by simp
 obj:=fun i h st b hb=>by
  obtain⟨⟨old,he⟩,⟨o,eo,c,d⟩⟩:=st;have hb':b=e\/b=it:=by simpa using hb
  rcases hb' with rfl | rfl
  ·exact⟨_,he,fun v z=>by cases z⟩
  ·exact⟨o,eo,fun v z=>by rw[d] at z;cases z⟩
 keep:=fun i h h' st k=>by
  obtain⟨⟨old,he⟩,hit⟩:=st;exact⟨⟨old,k e (by simp) _ he⟩,hit.at fun o x=>k it (by simp) o x⟩
 item:=by
  intro X hP hw hK hc i pins s σ H E I hf st hg;subst hP hw hK;obtain⟨xs,x,hq,hx⟩:=hg;obtain⟨its,rv,p,hz⟩:=I.list hq;obtain⟨u,hu,ru⟩:=rv.get hx;obtain⟨⟨old,he⟩,hit⟩:=st;have fe:=hf e (by simp);have fi:=hf it (by simp);refine wpAny_pyNext_enum_item he hit p.isList (x:=u) (by simpa using hu) hei fun h' ho hit' hT hsz hk=>⟨_,rfl,?_⟩
  have hfr:H s.heap.objs.size=none:=I.hok.fresh (Nat.le_refl _);have I1:Inv X pins σ (upd H s.heap.objs.size (.tup [.int (i:Int),x])) { s with heap:=h',toks:=s.toks+1 }:=Inv.turnedT (ch:=[e,it]) (its:=[.int (i:Int) s.toks,u]) I
   (fun b o hb q=>hk b o (fun z=>hb (by simp[z])) (fun z=>hb (by simp[z])) q)
   (fun b hb=>(hf b hb).1) (fun b hb=>⟨(hf b hb).2.2.2.1,(hf b hb).2.1,(hf b hb).2.2.2.2.1,(hf b hb).2.2.2.2.2⟩) (Nat.le_refl _) (.cons ⟨_,rfl⟩ (.cons ru .nil)) (by show 2<=sizeLine;decide) ⟨_,hT,rfl,_,rfl⟩
  have neT:∀b∈[e,it],b≠s.heap.objs.size:=fun b hb z=>by
   have hb':b=e\/b=it:=by simpa using hb
   rcases hb' with rfl | rfl
   ·exact absurd (Heap.lt_size he) (by rw[z];exact Nat.lt_irrefl _)
   ·obtain⟨_,x1,_⟩:=hit;exact absurd (Heap.lt_size x1) (by rw[z];exact Nat.lt_irrefl _)
  refine wpAny_letOwnedTupleGo_enum (s:={ s with heap:=h',toks:=s.toks+1 }) ho fun h'' he'' hs''=>?_
  have I2:=L2.Inv.turned (h':=h'') (t':=s.toks+1) (it:=e) I1 (fun b o hb q=>(hs''.2 b hb).trans q) (by rw[aI (neT e (by simp))];exact fe.1) fe.2.1 fe.2.2.2.1 fe.2.2.2.2.1 fe.2.2.2.2.2;refine⟨.ref s.heap.objs.size,_,I2,rfl,⟨x,s.heap.objs.size,fun ys hy=>by rw[I.list_inj hy hq];exact hx,hfr,rfl,rfl⟩,⟨⟨u,by simpa using he''⟩,hit'.at fun o q=>(hs''.2 it hei.symm).trans q⟩,fun b hb=>?_⟩;rw[aI (neT b hb)];exact(hf b hb).1
 done:=by
  intro X hP hw hK hc i pins s σ H E I hf st hg;subst hP hw hK;obtain⟨xs,hq,hx⟩:=hg;obtain⟨its,rv,p,hz⟩:=I.list hq;obtain⟨⟨old,he⟩,hit⟩:=st;obtain⟨f0,f1,f2,f3,f4,f5⟩:=hf it (by simp);have hl:=rv.length;exact wpAny_pyNext_enum_end (I.ok.hd hc) he hit p.isList (by simp;omega) fun h' eb=>⟨rfl,I.turned (t':=s.toks) (fun b o hb q=>eb b o hb q) f0 f1 f3 f4 f5⟩
 self:=fun _ _ _ _ _ st h=>by
  obtain⟨⟨old,he⟩,_⟩:=st;exact wpAny_pyIter_enum he h
def IteT(K:PySem.W.Frag)(a:Addr):It:=
 ⟨fun i H=>∃xs x,SqT K H a xs/\xs[i]?=some x,fun i H x H'=>∃v p,(∀xs,SqT K H a xs->xs[i]?=some v)/\H p=none/\H'=upd H p (.tup [.int (i:Int),v])/\x=.ref p,fun i H=>∃xs,SqT K H a xs/\xs.length=i⟩
theorem EK{P:Program}{w:World}{K:PySem.W.Frag}{elts:List Expr}{kk:Nat}{tp:Pos}(a e it:Addr)(hei:e≠it):Turn P w K (.Tuple elts kk tp) (IteT K a) [e,it] e (fun i h=>(∃old,IsEnum h e it i old)/\h.IsTupleIter it a i) where
 mem:=by simp
 obj:=fun i h st b hb=>by
  obtain⟨⟨old,he⟩,⟨o,eo,c,d⟩⟩:=st;have hb':b=e\/b=it:=by simpa using hb
  rcases hb' with rfl | rfl
  ·exact⟨_,he,fun v z=>by cases z⟩
  ·exact⟨o,eo,fun v z=>by rw[d] at z;cases z⟩
 keep:=fun i h h' st k=>by
  obtain⟨⟨old,he⟩,hit⟩:=st;exact⟨⟨old,k e (by simp) _ he⟩,hit.at fun o x=>k it (by simp) o x⟩
 item:=by
  intro X hP hw hK hc i pins s σ H E I hf st hg;subst hP hw hK;obtain⟨xs,x,hq,hx⟩:=hg;obtain⟨its,rv,p,hz⟩:=I.tuple hq;obtain⟨u,hu,ru⟩:=rv.get hx;obtain⟨⟨old,he⟩,hit⟩:=st;have p:s.heap.IsTuple a its.toArray:=p;have fe:=hf e (by simp);have fi:=hf it (by simp);have nai:a≠it:=fun z=>by
   obtain⟨o1,y1,y2,_⟩:=p;obtain⟨o2,y3,y4,_⟩:=hit;rw[z,y3] at y1;cases y1;rw[y4] at y2;exact absurd y2 (by decide)
  have nea:e≠a:=fun z=>by
   obtain⟨o1,y1,y2,_⟩:=p;rw[←z,he] at y1;cases y1;exact absurd (show Value.type "enumerate" = Value.type "tuple" from y2) (by decide)
  have hi:i<its.toArray.size:=by have:=(List.getElem?_eq_some_iff.1 hu).1;simpa using this
  refine wpAny_pyNext_enum_itemD (sL (by simp[I.ok.hd hc]) it a nai its.toArray) he ⟨hit,p⟩ hi hei (by simp;exact⟨hei,nea⟩) fun y h' tk hy ho st' hT hsz hk=>⟨_,rfl,?_⟩
  have hyu:y=u:=by
   have h1:its[i]?=some y:=by simpa using hy
   rw[hu] at h1;cases h1;rfl
  subst hyu;have hfr:H s.heap.objs.size=none:=I.hok.fresh (Nat.le_refl _);have I1:Inv X pins σ (upd H s.heap.objs.size (.tup [.int (i:Int),x])) { s with heap:=h',toks:=tk+1 }:=Inv.turnedT (ch:=[e,it]) (its:=[.int (i:Int) tk,y]) I
   (fun b o hb q=>hk b o (fun z=>hb (by simp[z])) (fun z=>hb (by simp[z])) q)
   (fun b hb=>(hf b hb).1) (fun b hb=>⟨(hf b hb).2.2.2.1,(hf b hb).2.1,(hf b hb).2.2.2.2.1,(hf b hb).2.2.2.2.2⟩) (Nat.le_refl _) (.cons ⟨_,rfl⟩ (.cons ru .nil)) (by show 2<=sizeLine;decide) ⟨_,hT,rfl,_,rfl⟩
  have neT:∀b∈[e,it],b≠s.heap.objs.size:=fun b hb z=>by
   have hb':b=e\/b=it:=by simpa using hb
   rcases hb' with rfl | rfl
   ·exact absurd (Heap.lt_size he) (by rw[z];exact Nat.lt_irrefl _)
   ·obtain⟨_,x1,_⟩:=hit;exact absurd (Heap.lt_size x1) (by rw[z];exact Nat.lt_irrefl _)
  refine wpAny_letOwnedTupleGo_enum (s:={ s with heap:=h',toks:=tk+1 }) ho fun h'' he'' hs''=>?_
  have I2:=L2.Inv.turned (h':=h'') (t':=tk+1) (it:=e) I1 (fun b o hb q=>(hs''.2 b hb).trans q) (by rw[aI (neT e (by simp))];exact fe.1) fe.2.1 fe.2.2.2.1 fe.2.2.2.2.1 fe.2.2.2.2.2;refine⟨.ref s.heap.objs.size,_,I2,rfl,⟨x,s.heap.objs.size,fun ys hy=>by rw[I.tuple_inj hy hq];exact hx,hfr,rfl,rfl⟩,⟨⟨y,by simpa using he''⟩,st'.1.at fun o q=>(hs''.2 it hei.symm).trans q⟩,fun b hb=>?_⟩;rw[aI (neT b hb)];exact(hf b hb).1
 done:=by
  intro X hP hw hK hc i pins s σ H E I hf st hg;subst hP hw hK;obtain⟨xs,hq,hx⟩:=hg;obtain⟨its,rv,p,hz⟩:=I.tuple hq;have p:s.heap.IsTuple a its.toArray:=p;obtain⟨⟨old,he⟩,hit⟩:=st;obtain⟨f0,f1,f2,f3,f4,f5⟩:=hf it (by simp);have nai:a≠it:=fun z=>by
   obtain⟨o1,y1,y2,_⟩:=p;obtain⟨o2,y3,y4,_⟩:=hit;rw[z,y3] at y1;cases y1;rw[y4] at y2;exact absurd y2 (by decide)
  have hn:i=its.toArray.size:=by rw[←hx,rv.length];simp
  subst hn;exact wpAny_pyNext_enum_endD (sL (by simp[I.ok.hd hc]) it a nai its.toArray) he ⟨hit,p⟩ fun h' eb=>⟨rfl,I.turned (t':=s.toks) (fun b o hb q=>eb b o hb q) f0 f1 f3 f4 f5⟩
 self:=fun _ _ _ _ _ st h=>by
  obtain⟨⟨old,he⟩,_⟩:=st;exact wpAny_pyIter_enum he h
def bZ:Int->List D->List D
 |_,[]=>[]
 |n,d::r=>.tup [.int n,d]::bZ (n+1) r
theorem iP:∀(n:Int) (ds:List D),(bZ n ds).length=ds.length
 |_,[]=>rfl
 |n,d::r=>by rw[bZ,List.length_cons,List.length_cons,iP]
theorem qj:∀{n:Int}{ds:List D}{i:Nat}{x:D},(bZ n ds)[i]?=some x->∃d,ds[i]?=some d/\x=.tup [.int (n+i),d]
 |_,[],_,_,h=>by cases h
 |n,d::r,0,x,h=>by
  rw[bZ] at h;simp at h;exact⟨d,rfl,by rw[←h];simp⟩
 |n,d::r,i+1,x,h=>by
  rw[bZ] at h;obtain⟨d',h1,h2⟩:=qj (n:=n+1) (ds:=r) (i:=i) (x:=x) (by simpa using h);refine⟨d',by simpa using h1,?_⟩;rw[h2];congr 2;congr 1;omega
theorem Ac{K:PySem.W.Frag}{a:Addr}{ds:List D}{H0:Hp}{g:MH->Prop}(hg:∀H M,RM K M H->g M->∃vs,SqL K H a vs/\RVs K H ds vs):JOk K (Ite K a) H0 (bZ 0 ds) g:=by
 intro i H M _ rm q;obtain⟨vs,sq,rr⟩:=hg H M rm q;rw[iP];refine⟨fun hi=>?_,fun hi=>⟨vs,sq,by rw[←rr.len];exact Nat.le_of_eq hi.symm⟩,fun x H' d hd ⟨v,p,hv,hp,e,y⟩=>?_⟩
 ·have:i<vs.length:=by rw[←rr.len];exact hi
  exact⟨vs,vs[i],sq,List.getElem?_eq_getElem this⟩
 ·subst e y
  obtain⟨d',h1,rfl⟩:=qj hd;obtain⟨v',h2,r⟩:=d5 rr.p h1
  have:=hv vs sq
  rw[h2] at this;cases this;have k:=Kp.new (o:=.tup [.int (i:Int),v]) hp;refine⟨k,rm.newH hp,RV.tup_.2 ⟨p,_,rfl,SqT.of aC,.cons (RV.int_.2 (by rw[Int.zero_add])) (.cons (RV.mono k _ r) .nil)⟩⟩
theorem Gj{K:PySem.W.Frag}{a:Addr}{ds:List D}{vs:List V}{H0:Hp}(sq:SqT K H0 a vs)(rr:RVs K H0 ds vs):JOk K (IteT K a) H0 (bZ 0 ds) (fun _=>True):=by
 intro i H M k rm _;have sq:=k.sq sq;have rr:=RVs.mono k _ rr;rw[iP];refine⟨fun hi=>?_,fun hi=>⟨vs,sq,by rw[←rr.len];exact hi.symm⟩,fun x H' d hd ⟨v,p,hv,hp,e,y⟩=>?_⟩
 ·have:i<vs.length:=by rw[←rr.len];exact hi
  exact⟨vs,vs[i],sq,List.getElem?_eq_getElem this⟩
 ·subst e y
  obtain⟨d',h1,rfl⟩:=qj hd;obtain⟨v',h2,r⟩:=d5 rr.p h1
  have:=hv vs sq
  rw[h2] at this;cases this;have k:=Kp.new (o:=.tup [.int (i:Int),v]) hp;refine⟨k,rm.newH hp,RV.tup_.2 ⟨p,_,rfl,SqT.of aC,.cons (RV.int_.2 (by rw[Int.zero_add])) (.cons (RV.mono k _ r) .nil)⟩⟩
def EL(t:WA):WI:=fun σ M R=>t σ M fun ds M1=>match ds with
 |[.tup xs]=>R (bZ 0 xs) (fun _=>True) M1
 |[.ref a]=>match M1 a with
  |some (.lst xs)=>R (bZ 0 xs) (fun M'=>M' a=some (.lst xs)) M1
  |some (.rol xs)=>R (bZ 0 xs) (fun M'=>M' a=some (.rol xs)) M1
  |_=>False
 |_=>False
section
variable {X : Cx} {H : Hp} {pos : Pos}
theorem DR{pins:List (Addr×Obj)}{ρ:L2.St}{s:Shared}{elts:List Expr}{kk:Nat}{tp:Pos}{a:Addr}{xs:List V}{R:It->Hp->Prop}(I:Inv X pins ρ H s)(hq:SqL X.K H a xs)(q:R (Ite X.K a) H):
  wpAny (model X.prog X.w) X.A (call (.type "enumerate") [.ref a]) (fun v s1=>wpAny (model X.prog X.w) X.A (pyIter v) (PIE X pins ρ (.Tuple elts kk tp) R) X.xe s1) X.xe s:=by
 obtain⟨its,rv,p,hz⟩:=I.list hq;refine call_enumerate_list p.isList fun h' hE hI hsz hk=>?_
 refine wpAny_pyIter_enum hE ?_;have I1:Inv X pins ρ H { s with heap:=h' }:=I.kept (t':=s.toks) hk;refine⟨s.heap.objs.size+1,[s.heap.objs.size+1,s.heap.objs.size],_,_,H,rfl,I1,Gi a _ _ (Nat.succ_ne_self _),⟨⟨.none,hE⟩,hI⟩,fun b hb=>?_,q⟩;have hb':b=s.heap.objs.size+1\/b=s.heap.objs.size:=by simpa using hb
 rcases hb' with rfl | rfl
 ·exact I.fpOk (Nat.le_succ _) (I.hok.fresh (Nat.le_succ _))
 ·exact I.fpOk (Nat.le_refl _) (I.hok.fresh (Nat.le_refl _))
theorem HV{pins:List (Addr×Obj)}{ρ:L2.St}{s:Shared}{elts:List Expr}{kk:Nat}{tp:Pos}{a:Addr}{xs:List V}{R:It->Hp->Prop}(I:Inv X pins ρ H s)(hq:SqT X.K H a xs)(q:R (IteT X.K a) H):
  wpAny (model X.prog X.w) X.A (call (.type "enumerate") [.ref a]) (fun v s1=>wpAny (model X.prog X.w) X.A (pyIter v) (PIE X pins ρ (.Tuple elts kk tp) R) X.xe s1) X.xe s:=by
 obtain⟨its,rv,p,hz⟩:=I.tuple hq;refine EJ (show s.heap.IsTuple a its.toArray from p) fun h' hE hI hk=>?_
 refine wpAny_pyIter_enum hE ?_;have I1:Inv X pins ρ H { s with heap:=h' }:=I.kept (t':=s.toks) hk;refine⟨s.heap.objs.size+1,[s.heap.objs.size+1,s.heap.objs.size],_,_,H,rfl,I1,EK a _ _ (Nat.succ_ne_self _),⟨⟨.none,hE⟩,hI⟩,fun b hb=>?_,q⟩;have hb':b=s.heap.objs.size+1\/b=s.heap.objs.size:=by simpa using hb
 rcases hb' with rfl | rfl
 ·exact I.fpOk (Nat.le_succ _) (I.hok.fresh (Nat.le_succ _))
 ·exact I.fpOk (Nat.le_refl _) (I.hok.fresh (Nat.le_refl _))
theorem HW{l:Expr}{t:WA}{p:Pos}{elts:List Expr}{kk:Nat}{tp:Pos}(hg:Gl X "enumerate")(hm:X.mg "enumerate" = none)(h:PAd X [l] t)(hs:aw l=true):PId X (.Tuple elts kk tp) (.Call (.Name "enumerate" p) [l] [] pos) (EL t):=by
 intro σ M ρ H R rs rm q pins s I;refine Call_ (fL I hg hm (by decide +kernel:bootBuiltins "enumerate" = some (.type "enumerate")) (PyProof.Rows.callWith_type1 (thn (h σ M ρ H _ rs rm q pos pins s I) fun us s1 zz1=>?_) (bh hs) rfl));obtain⟨vs,H1,I1,rv,⟨k1,ds,M1,r1,l1,m1,q1⟩⟩:=zz1;try dsimp only at q1
 split at q1
 ·rename_i ds'
  rw[RVs] at r1;obtain⟨v,vs',rfl,r2,r3⟩:=r1;rw[RVs] at r3;subst r3;obtain⟨a,xs,rfl,sq,rr⟩:=RV.tup_.1 r2;obtain⟨u,rfl,ru⟩:=rv.one;cases ru;obtain⟨_,_,_,hz⟩:=I1.tuple sq;exact HV I1 sq ⟨k1,_,_,M1,m1,trivial,Gj sq rr,by rw[iP,rr.len];exact hz,q1⟩
 ·rename_i a
  rw[RVs] at r1;obtain⟨v,vs',rfl,r2,r3⟩:=r1;rw[RVs] at r3;subst r3;cases RV.ref_.1 r2;obtain⟨u,rfl,ru⟩:=rv.one;cases ru;split at q1
  ·rename_i xs e
   obtain⟨ys,e1,rr⟩:=m1 a _ e;obtain⟨_,_,_,hz⟩:=I1.list (SqL.of e1);refine DR I1 (SqL.of e1) ⟨k1,_,_,M1,m1,e,Ac fun H' M' rm' g'=>?_,by rw[iP,rr.len];exact hz,q1⟩;obtain⟨xs',e',rr'⟩:=rm' a _ g';exact⟨xs',SqL.of e',rr'⟩
  ·rename_i xs e
   obtain⟨ys,e1,rr⟩:=m1 a _ e;have e1:SqL X.K H1 a ys:=.inl e1;obtain⟨_,_,_,hz⟩:=I1.list e1;refine DR I1 e1 ⟨k1,_,_,M1,m1,e,Ac fun H' M' rm' g'=>?_,by rw[iP,rr.len];exact hz,q1⟩;obtain⟨xs',e',rr'⟩:=rm' a _ g';exact⟨xs',.inl e',rr'⟩
  ·exact False.elim q1
 ·exact False.elim q1
end
end DD
namespace DD
open PySem PySem.Spec PyProof.Rows L2
mutual
inductive E where
 |var (i:Nat) | int (i:Int) | str (x:Str) | bl (b:Bool) | non | glob (j:Nat) | ty (T:String)
 |bin (o:Operator) (a b:E) | cmp (o:CmpOp) (a b:E)
 |and (a b:E) | or (a b:E) | not (a:E) | ite (c:T) (a b:E)
 |fn (j:Nat) (es:Es) | bi (b:Bi) (es:Es) | mt (m:Mt) (o:E) (es:Es) | mt0 (m:Mt) (o:E)
 |ix (a b:E) | sl (a:E) (lo hi:Eo) | lst (es:Es) | tup (es:Es) | comp (n:Nat) (e:E) (t:Tgt) (i:I) (c:To)
 |neg (a:E) | dnew | fld (o:E) (f:Str) | mu (m:Str) (o:E) (es:Es) | mu0 (m:Str) (o:E) | lenSet (a:E) | bj (b:Bj) (es:Es) | lrg (es:Es) | inv (a:E) | bk (b:Bk) (es:Es)
inductive Ps where
 |nil | cons (k v:E) (r:Ps)
inductive Es where
 |nil | cons (e:E) (es:Es)
inductive Eo where
 |no | yes (e:E)
inductive To where
 |no | yes (t:T)
inductive T where
 |val (e:E) | cmp (o:CmpOp) (a b:E) | and (t u:T) | or (t u:T) | not (t:T)
inductive I where
 |seq (e:E) | rg1 (es:Es) | enum (es:Es)
end
mutual
inductive S where
 |set (i:Nat) (e:E) | setC (i n:Nat) (e:E) (t:Tgt) (it:I) (c:To) | asg (g:Tgt) (e:E) | expr (e:E) | ret (e:E)
 |ite (t:T) (a b:Ss) | for (g:Tgt) (it:I) (b:Ss) | pass | never
 |putIx (o i e:E) | setF (o:E) (f:Str) (e:E) | while (t:T) (b:Ss)
inductive Ss where
 |nil | cons (s:S) (r:Ss)
end
structure Cn where
 F:List SpD
 G:List D
 O:OK0
 T:MT0
 I:IS0:=fun _ _=>none
def kG(c:WT)(tb:WS):WS:=fun E σ M=>∃W:Nat->DS->MH->Prop,(∃m,W m σ M)/\∀m σ M,W m σ M ->
 c σ M fun b M1=>Bif b (∃N:DS->MH->Prop,(∀σ' M',N σ' M'->∃m',m'<m/\W m' σ' M')/\tb { E with nx:=N,ct:=N,bk:=E.nx } σ M1) (E.nx σ M1)
section
variable (c : Cn)
mutual
noncomputable def wE:E->WE
 |.var i=>fun σ M Q=>getS σ i fun d=>Q d M
 |.int i=>fun _ M Q=>Q (.int i) M
 |.str i=>fun _ M Q=>Q (.str i) M
 |.bl i=>fun _ M Q=>Q (.bl i) M
 |.non=>fun _ M Q=>Q .non M
 |.glob j=>fun _ M Q=>Q (c.G.getD j .non) M
 |.ty n=>fun _ M Q=>Q (.ty n) M
 |.bin o a b=>wOp (dBin o) (wE a) (wE b)
 |.cmp o a b=>wOp (dCmp o) (wE a) (wE b)
 |.and a b=>El (wE a) (wE b)
 |.or a b=>wOrV (wE a) (wE b)
 |.not a=>Em (wE a)
 |.ite t a b=>wIf (wT t) (wE a) (wE b)
 |.fn j es=>ij (c.F.getD j fun _ _ _=>False) (wEs es)
 |.bi b es=>ij (dBi b) (wEs es)
 |.lenSet a=>xb (wE a)
 |.bj b es=>ij (dBj b) (wEs es)
 |.bk b es=>ij (dBk b) (wEs es)
 |.lrg es=>wLrg (wEs es)
 |.mt m o es=>wMt (mtRc m) (dMt m) (wE o) (wEs es)
 |.mt0 m o=>wMt (mtRc m) (dMt m) (wE o) wNil
 |.ix a b=>wOp dIx (wE a) (wE b)
 |.sl a lo hi=>wSl (wE a) (wEo lo) (wEo hi)
 |.lst es=>wLst (wEs es)
 |.tup es=>wTup (wEs es)
 |.comp n e t i d=>Ew n (wI i) t (wTo d) (wE e)
 |.neg a=>wNeg (wE a)
 |.inv a=>wInv (wE a)
 |.dnew=>fun _ M Q=>∀p,M p=none->Q (.ref p) (updM M p (.dic []))
 |.fld o f=>wFld c.O f (wE o)
 |.mu m o es=>uL c.T m (wE o) (wEs es)
 |.mu0 m o=>uL c.T m (wE o) wNil
noncomputable def wP:Ps->List (WE×WE)
 |.nil=>[]
 |.cons k v r=>(wE k,wE v)::wP r
noncomputable def wEs:Es->WA
 |.nil=>wNil
 |.cons e es=>En (wE e) (wEs es)
noncomputable def wEo:Eo->WO
 |.no=>fun _ M Q=>Q none M
 |.yes e=>fun σ M Q=>wE e σ M fun x M1=>intD x fun i=>Q (some i) M1
noncomputable def wTo:To->WT
 |.no=>fun _ M Q=>Q true M
 |.yes t=>wT t
noncomputable def wT:T->WT
 |.val e=>wTru (wE e)
 |.cmp o a b=>Ek (wOp (dCmp o) (wE a) (wE b))
 |.and t u=>wAnd (wT t) (wT u)
 |.or t u=>wOr (wT t) (wT u)
 |.not t=>wNot (wT t)
noncomputable def wI:I->WI
 |.seq e=>Er (wE e)
 |.rg1 es=>Et (wEs es)
 |.enum es=>EL (wEs es)
end
mutual
noncomputable def wS:S->WS
 |.set i e=>wSet i (wE c e)
 |.setC i n e t it d=>Ex i n (wI c it) t (wTo c d) (wE c e)
 |.asg g e=>wAsg (wE c e) g
 |.expr e=>Ep (wE c e)
 |.ret e=>wRet (wE c e)
 |.ite t a b=>wIfS (wT c t) (wSs a) (wSs b)
 |.for g it b=>wFor (wI c it) g (wSs b)
 |.pass=>uw
 |.never=>fun _ _ _=>False
 |.putIx o i e=>z5 (wE c e) (wE c o) (wE c i)
 |.setF o f e=>EC c.O f (wE c o) (wE c e)
 |.while t b=>kG (wT c t) (wSs b)
noncomputable def wSs:Ss->WS
 |.nil=>uw
 |.cons s r=>wSeq (wS s) (wSs r)
end
end
structure Gam where
 N:List Str
 sc:Scope
 all:Bool
 glob:List Str
 blt:List Str
 fns:List Str
def EM:Option NameKind->Bool
 |some .local=>true
 |some .cell=>true
 |some .free=>true
 |_=>false
def EN:Option NameKind->Bool
 |some .local=>true
 |some .cell=>true
 |_=>false
def Gk(Γ:Gam)(i:Nat)(x:Str):Bool:=decide (Γ.N[i]?=some x)&&EM (Γ.sc.names.lookup x) && !(x==("__debug__" : Str)) && !(x==("__classdict__" : Str))
def qk(Γ:Gam)(i:Nat)(x:Str):Bool:=decide (Γ.N[i]?=some x)&&EN (Γ.sc.names.lookup x)&&(Γ.all||decide (Γ.sc.names.lookup x=some .local))
def c8(Γ:Gam)(x:Str):Bool:=decide (Γ.sc.names.lookup x=some .globalImplicit) && !(x==("__debug__" : Str))
def uR:List String:=["bool", "int", "str", "tuple", "list", "dict"]
def ownOf(sc:Scope):List Str:=sc.names.filterMap fun p=>if p.2=.local/\p.1≠(".0" : Str) then some p.1 else none
def n2Of(Γ:Gam)(sc:Scope):List Str:=Γ.N.map fun y=>if sc.names.lookup y=some .local then "" else y
def nu(Γ:Gam)(sc:Scope):Bool:=decide (sc.kind=.function)&&sc.names.all (fun y=>decide (y.2≠.cell))&&sc.names.all (fun y=>decide (y.2=.local->sc.names.lookup y.1=some .local)) &&
 sc.names.all (fun y=>decide (y.2=.free->(Γ.sc.names.lookup y.1=some .cell\/Γ.sc.names.lookup y.1=some .free)))&&((n2Of Γ sc).zip Γ.N).all (fun p=>decide ((sc.names.lookup p.1=some .free->p.1=p.2)/\sc.names.lookup p.1≠some .local))&&decide ((n2Of Γ sc++ownOf sc).Nodup)
def relS(sc osc:Scope):Scope:={ sc with names:=sc.names.map fun(p:Str×NameKind)=>if(p.2==NameKind.free&&osc.kind==.function&&osc.names.lookup p.1==some .cell)=true then(p.1,NameKind.cell) else(p.1,p.2) }
def inComp(Γ:Gam)(sc:Scope):Gam:={ Γ with N:=n2Of Γ sc++ownOf sc,sc:=relS sc Γ.sc,all:=false }
def uS(Γ:Gam):List Nat->List Expr->Bool
 |[],[]=>true
 |i::is,.Name x _::es=>qk Γ i x&&uS Γ is es
 |_,_=>false
def rJ(Γ:Gam):Tgt->Expr->Bool
 |.nm i,.Name x _=>qk Γ i x
 |.tp is,.Tuple es _ _=>uS Γ is es
 |_,_=>false
def Gm:Expr->Bool
 |.UnaryOp .Not _ _=>false
 |.BoolOp _ _ _=>false
 |.IfExp _ _ _ _=>false
 |.Compare _ _ _ _=>false
 |_=>true
mutual
noncomputable def chkE:Gam->E->Expr->Bool
 |Γ,.var i,e=>match e with
  |.Name x _=>Gk Γ i x
  |_=>false
 |_,.int i,e=>match e with
  |.Constant (.int j) _ _=>decide (i=j)
  |_=>false
 |_,.str i,e=>match e with
  |.Constant (.str j) _ _=>decide (i=j)
  |_=>false
 |_,.bl i,e=>match e with
  |.Constant (.bool j) _ _=>decide (i=j)
  |_=>false
 |_,.non,e=>match e with
  |.Constant .none _ _=>true
  |_=>false
 |Γ,.glob j,e=>match e with
  |.Name x _=>c8 Γ x&&decide (Γ.glob[j]?=some x)
  |_=>false
 |Γ,.ty n,e=>match e with
  |.Name x _=>c8 Γ x&&Γ.blt.contains x&&decide (x=Str.ofString n)&&uR.contains n
  |_=>false
 |Γ,.bin o a b,e=>match e with
  |.BinOp l op r _=>decide (o=op)&&chkE Γ a l&&chkE Γ b r
  |_=>false
 |Γ,.cmp o a b,e=>match e with
  |.Compare l [op] [r] _=>decide (o=op)&&chkE Γ a l&&chkE Γ b r && !(behindInMarks op r)
  |_=>false
 |Γ,.and a b,e=>match e with
  |.BoolOp .And [l,r] _=>chkE Γ a l&&chkE Γ b r
  |.BoolOp .And (l::r::q::rest) pos=>chkE Γ a l&&chkE Γ b (.BoolOp .And (r::q::rest) pos)
  |_=>false
 |Γ,.or a b,e=>match e with
  |.BoolOp .Or [l,r] _=>chkE Γ a l&&chkE Γ b r
  |.BoolOp .Or (l::r::q::rest) pos=>chkE Γ a l&&chkE Γ b (.BoolOp .Or (r::q::rest) pos)
  |_=>false
 |Γ,.not a,e=>match e with
  |.UnaryOp .Not l _=>chkE Γ a l
  |_=>false
 |Γ,.ite c a b,e=>match e with
  |.IfExp t l r _=>chkT Γ c t&&chkE Γ a l&&chkE Γ b r
  |_=>false
 |Γ,.fn j es,e=>match e with
  |.Call (.Name x _) (a::as) [] _=>c8 Γ x&&decide (Γ.fns[j]?=some x)&&aw a&&as.all aw&&c9 Γ es (a::as)
  |_=>false
 |Γ,.bi b es,e=>match e with
  |.Call (.Name x _) (a::as) [] _=>c8 Γ x&&Γ.blt.contains x&&decide (x=uH b)&&aw a&&as.all aw&&c9 Γ es (a::as)
  |_=>false
 |Γ,.bj b es,e=>match e with
  |.Call (.Name x _) (a::as) [] _=>c8 Γ x&&Γ.blt.contains x&&decide (x=uO b)&&aw a&&as.all aw&&c9 Γ es (a::as)
  |_=>false
 |Γ,.bk b es,e=>match e with
  |.Call (.Name x _) (a::as) [] _=>c8 Γ x&&Γ.blt.contains x&&decide (x=uQ b)&&aw a&&as.all aw&&c9 Γ es (a::as)
  |_=>false
 |Γ,.lenSet a,e=>match e with
  |.Call (.Name x _) [.Call (.Name y _) [l] [] _] [] _=>c8 Γ x&&Γ.blt.contains x&&decide (x=("len" : Str))&&c8 Γ y&&Γ.blt.contains y&&decide (y=("set" : Str))&&aw l&&chkE Γ a l
  |_=>false
 |Γ,.lrg es,e=>match e with
  |.Call (.Name x _) [.Call (.Name y _) [l] [] _] [] _=>c8 Γ x&&Γ.blt.contains x&&decide (x=("list" : Str))&&c8 Γ y&&Γ.blt.contains y&&decide (y=("range" : Str))&&aw l&&c9 Γ es [l]
  |.Call (.Name x _) [.Call (.Name y _) [l,r] [] _] [] _=>c8 Γ x&&Γ.blt.contains x&&decide (x=("list" : Str))&&c8 Γ y&&Γ.blt.contains y&&decide (y=("range" : Str))&&aw l&&aw r&&c9 Γ es [l,r]
  |_=>false
 |Γ,.mt m o es,e=>match e with
  |.Call (.Attribute l x apos) (a::as) [] pos=>decide (x=uK m)&&chkE Γ o l&&bB l&&aw a&&as.all aw&&decide (as.length<20)&&(apos.endLine==pos.line)&&c9 Γ es (a::as)
  |_=>false
 |Γ,.mt0 m o,e=>match e with
  |.Call (.Attribute l x apos) [] [] pos=>decide (x=uK m)&&chkE Γ o l&&bB l&&(apos.endLine==pos.line)
  |_=>false
 |Γ,.ix a b,e=>match e with
  |.Subscript l r _=>chkE Γ a l&&chkE Γ b r&&l5 r
  |_=>false
 |Γ,.sl a lo hi,e=>match e with
  |.Subscript l (.Slice x y none _) _=>chkE Γ a l&&uT Γ lo x&&uT Γ hi y
  |_=>false
 |Γ,.lst es,e=>match e with
  |.List as _=>c9 Γ es as&&decide (as.length<=1000)
  |_=>false
 |Γ,.tup es,e=>match e with
  |.Tuple as _ _=>c9 Γ es as&&decide (as.length<=1000)
  |_=>false
 |Γ,.comp n e t i c,ex=>match ex with
  |.ListComp elt [⟨tg,it,ifs,ia⟩] sc _=>nu Γ sc&&decide (n=(ownOf sc).length)&&decide (ia=0)&&chkI Γ i tg it&&l0 it&&rJ (inComp Γ sc) t tg&&uU (inComp Γ sc) c ifs&&chkE (inComp Γ sc) e elt
  |_=>false
 |Γ,.neg a,e=>match e with
  |.UnaryOp .USub l _=>chkE Γ a l
  |_=>false
 |Γ,.inv a,e=>match e with
  |.UnaryOp .Invert l _=>chkE Γ a l
  |_=>false
 |_,.dnew,e=>match e with
  |.Dict [] [] _=>true
  |_=>false
 |Γ,.fld o f,e=>match e with
  |.Attribute l x _=>chkE Γ o l&&decide (x=f)&&bB l
  |_=>false
 |Γ,.mu m o es,e=>match e with
  |.Call (.Attribute l x apos) (a::as) [] pos=>decide (x=m)&&chkE Γ o l&&bB l&&aw a&&as.all aw&&decide (as.length<19)&&(apos.endLine==pos.line)&&c9 Γ es (a::as)
  |_=>false
 |Γ,.mu0 m o,e=>match e with
  |.Call (.Attribute l x apos) [] [] pos=>decide (x=m)&&chkE Γ o l&&bB l&&(apos.endLine==pos.line)
  |_=>false
noncomputable def chkP:Gam->Ps->List (Option Expr)->List Expr->Bool
 |_,.nil,ks,vs=>match ks,vs with
  |[],[]=>true
  |_,_=>false
 |Γ,.cons k v r,ks,vs=>match ks,vs with
  |some x::ks,y::vs=>chkE Γ k x&&chkE Γ v y&&chkP Γ r ks vs
  |_,_=>false
noncomputable def c9:Gam->Es->List Expr->Bool
 |_,.nil,as=>match as with
  |[]=>true
  |_=>false
 |Γ,.cons e es,as=>match as with
  |a::as=>chkE Γ e a&&aw a&&c9 Γ es as
  |_=>false
noncomputable def uT:Gam->Eo->Option Expr->Bool
 |_,.no,a=>match a with
  |none=>true
  |_=>false
 |Γ,.yes e,a=>match a with
  |some a=>chkE Γ e a
  |_=>false
noncomputable def uU:Gam->To->List Expr->Bool
 |_,.no,as=>match as with
  |[]=>true
  |_=>false
 |Γ,.yes t,as=>match as with
  |[a]=>chkT Γ t a
  |_=>false
noncomputable def chkT:Gam->T->Expr->Bool
 |Γ,.val e,ex=>chkE Γ e ex&&Gm ex
 |Γ,.cmp o a b,e=>match e with
  |.Compare l [op] [r] _=>decide (o=op)&&chkE Γ a l&&chkE Γ b r && !(behindInMarks op r)
  |_=>false
 |Γ,.and a b,e=>match e with
  |.BoolOp .And [l,r] _=>chkT Γ a l&&chkT Γ b r
  |.BoolOp .And (l::r::q::rest) pos=>chkT Γ a l&&chkT Γ b (.BoolOp .And (r::q::rest) pos)
  |_=>false
 |Γ,.or a b,e=>match e with
  |.BoolOp .Or [l,r] _=>chkT Γ a l&&chkT Γ b r
  |.BoolOp .Or (l::r::q::rest) pos=>chkT Γ a l&&chkT Γ b (.BoolOp .Or (r::q::rest) pos)
  |_=>false
 |Γ,.not a,e=>match e with
  |.UnaryOp .Not l _=>chkT Γ a l
  |_=>false
noncomputable def chkI:Gam->I->Expr->Expr->Bool
 |Γ,.seq e,_,ex=>chkE Γ e ex
 |Γ,.enum es,tg,e=>match tg,e with
  |.Tuple _ _ _,.Call (.Name x _) [a] [] _=>c8 Γ x&&Γ.blt.contains x&&decide (x=("enumerate" : Str))&&aw a&&c9 Γ es [a]
  |_,_=>false
 |Γ,.rg1 es,_,e=>match e with
  |.Call (.Name x _) [a] [] _=>c8 Γ x&&Γ.blt.contains x&&decide (x=("range" : Str))&&aw a&&c9 Γ es [a]
  |_=>false
end
def DT:Expr->Bool
 |.Tuple _ _ _=>false
 |_=>true
mutual
noncomputable def chkS:Gam->S->Stmt->Bool
 |Γ,.set i e,st=>match st with
  |.Assign [.Name x _] v _=>qk Γ i x&&eG v&&chkE Γ e v
  |_=>false
 |Γ,.setC i n e t j c,st=>match st with
  |.Assign [.Name y py] (.ListComp elt [⟨tg,it,ifs,ia⟩] sc pos) spos=>decide (Γ.N[i]?=some y)&&decide (Γ.sc.names.lookup y=some .local)&&(py.line==pos.line) && !(sc.names.any fun(p:Str×NameKind)=>p.1==y&&(p.2==.local || p.2==.cell)) &&
   nu Γ sc&&decide (n=(ownOf sc).length)&&decide (ia=0)&&chkI Γ j tg it&&l0 it&&rJ (inComp Γ sc) t tg&&uU (inComp Γ sc) c ifs&&chkE (inComp Γ sc) e elt
  |_=>false
 |Γ,.asg g e,st=>match st with
  |.Assign [.Tuple es k p] v _=>rJ Γ g (.Tuple es k p)&&eG v&&DT v&&chkE Γ e v
  |_=>false
 |Γ,.expr e,st=>match st with
  |.Expr v _=>eG v&&chkE Γ e v
  |_=>false
 |Γ,.ret e,st=>match st with
  |.Return (some v) _=>chkE Γ e v
  |_=>false
 |Γ,.ite t a b,st=>match st with
  |.If c x y _=>chkT Γ t c&&ao Γ a x&&ao Γ b y
  |_=>false
 |Γ,.for g j b,st=>match st with
  |.For tg it body [] _=>rJ Γ g tg&&chkI Γ j tg it&&l0 it&&ao Γ b body
  |_=>false
 |_,.pass,st=>match st with
  |.Pass _=>true
  |_=>false
 |_,.never,_=>true
 |Γ,.putIx o i e,st=>match st with
  |.Assign [.Subscript l r _] v _=>chkE Γ o l&&chkE Γ i r&&chkE Γ e v&&eG v&&l5 r
  |_=>false
 |Γ,.setF o f e,st=>match st with
  |.Assign [.Attribute l x _] v _=>chkE Γ o l&&decide (x=f)&&chkE Γ e v
  |_=>false
 |Γ,.while t b,st=>match st with
  |.While c body [] _=>chkT Γ t c&&ao Γ b body
  |_=>false
noncomputable def ao:Gam->Ss->List Stmt->Bool
 |_,.nil,l=>match l with
  |[]=>true
  |_=>false
 |Γ,.cons s r,l=>match l with
  |st::sts=>chkS Γ s st&&ao Γ r sts
  |_=>false
end
end DD
namespace DD
open PySem PySem.Spec PyProof.Rows L2
def dQ(P:Program)(w:World)(K:PySem.W.Frag)(mg:Str->Option Value)(base:Heap)(k:Nat)(x:Str)(sp:SpD):Prop:=FnD P w K mg base k x sp \/ ∃k',k=k'+1/\MkD P w K mg base k' x sp
structure GOk (Γ:Gam) (c:Cn) (X:Cx):Prop where
 N:X.N=Γ.N
 sc:X.env.scope=Γ.sc
 kind:Γ.sc.kind=.function
 nd:Γ.N.Nodup
 calm:X.calm=true
 fn:Γ.all=true->∀x,X.fn x=true
 own:PassesOwn (model X.prog X.w) X.A X.env X.xe
 glob:∀(j:Nat) x,Γ.glob[j]?=some x->qe X.K X.mg x (c.G.getD j .non)
 blt:∀x,Γ.blt.contains x=true->X.mg x=none
 fns:∀(j:Nat) x,Γ.fns[j]?=some x->∃k,dQ X.prog X.w X.K X.mg X.base k x (c.F.getD j fun _ _ _=>False)/\Room k X.A
 flds:∀C f,c.O C f->Cls X.K C/\cf X.K C f
 mts:ED X c.T
 isi:∀C d b,c.I C d=some b->IsiOk X.K C d b
 hu:X.A.units+40<cLine
section
variable {Γ : Gam} {X : Cx} {e : Expr} {pos : Pos} {cn : Cn}
theorem LT(sc:Scope)(env:Env):relabel sc env=relS sc env.scope:=rfl
theorem GOk.comp{sc:Scope}{C:Addr}{s:Shared}{H:Hp}{ex:List Addr}{pn:List (Addr×Obj)}(g:GOk Γ cn X)(h:nu Γ sc=true):GOk (inComp Γ sc) cn (cxC X sc (ownOf sc) (n2Of Γ sc) C s H ex pn):=by
 unfold nu at h;simp only[Bool.and_eq_true,decide_eq_true_eq] at h;obtain⟨⟨⟨⟨⟨h1,h2⟩,h3⟩,h4⟩,h5⟩,h6⟩:=h;refine⟨rfl,?_,h1,h6,g.calm,(fun z=>nomatch z),PassesOwn.never,g.glob,g.blt,g.fns,g.flds,g.mts,g.isi,g.hu⟩;show relabel sc X.env=relS sc Γ.sc;rw[LT,g.sc]
theorem GOk.cscope{sc:Scope}(g:GOk Γ cn X)(h:nu Γ sc=true):CompScope Γ.sc sc X.N (ownOf sc) (n2Of Γ sc):=by
 unfold nu at h;simp only[Bool.and_eq_true,decide_eq_true_eq] at h;obtain⟨⟨⟨⟨⟨h1,h2⟩,h3⟩,h4⟩,h5⟩,h6⟩:=h;rw[List.all_eq_true] at h2 h3 h4 h5;refine⟨h1,fun y hy=>of_decide_eq_true (h2 y hy),fun y hy=>of_decide_eq_true (h3 y hy),fun y hy=>of_decide_eq_true (h4 y hy),?_,fun p hp=>?_⟩
 ·rw[g.N];unfold n2Of;rw[List.length_map]
 ·rw[g.N] at hp;exact of_decide_eq_true (h5 p hp)
theorem HX{sc:Scope}{x:Str}(h:EM (sc.names.lookup x)=true):Vis sc x:=by
 unfold EM at h;unfold Vis;split at h
 ·exact .inl (by assumption)
 ·exact .inr (.inl (by assumption))
 ·exact .inr (.inr (by assumption))
 ·cases h
theorem HY{sc:Scope}{x:Str}(h:EN (sc.names.lookup x)=true):L2.Loc sc x:=by
 unfold EN at h;unfold L2.Loc;split at h
 ·exact .inl (by assumption)
 ·exact .inr (by assumption)
 ·cases h
theorem EO{i:Nat}{x:Str}(g:GOk Γ cn X)(h:qk Γ i x=true):X.N.Nodup/\X.N[i]?=some x/\L2.Loc X.env.scope x/\(X.fn x=true\/X.env.scope.names.lookup x=some .local):=by
 unfold qk at h;simp only[Bool.and_eq_true,Bool.or_eq_true,decide_eq_true_eq] at h;obtain⟨⟨h1,h2⟩,h3⟩:=h;rw[g.N,g.sc];exact⟨g.nd,h1,HY h2,h3.imp (fun z=>g.fn z x) id⟩
theorem s_gl{x:Str}(g:GOk Γ cn X)(h:c8 Γ x=true):Gl X x/\(x==("__debug__" : Str))=false:=by
 unfold c8 at h;simp only[Bool.and_eq_true,decide_eq_true_eq,Bool.not_eq_true'] at h;refine⟨?_,h.2⟩;show X.env.scope.names.lookup x=_;rw[g.sc];exact h.1
theorem IJ(g:GOk Γ cn X):∀{is:List Nat}{es:List Expr},uS Γ is es=true->PGs X es (gsOf is)/\(assignEach es X.env).length=is.length/\(assignEach es X.env).findIdx? (·.1)=none
 |[],[],_=>⟨IZ,rfl,rfl⟩
 |i::is,.Name x p::es,h=>by
  unfold uS at h;rw[Bool.and_eq_true] at h;obtain⟨h1,h2,h3⟩:=IJ g h.2;obtain⟨a,b,c,d⟩:=EO g h.1;refine⟨GY (Dn a b c d) h1 rfl,?_,?_⟩
  ·show(assignEach es X.env).length+1=is.length+1;rw[h2]
  ·show List.findIdx? (·.1) ((false,assign (.Name x p) X.env)::assignEach es X.env)=none
   rw[List.findIdx?_cons];simp[h3]
 |[],_::_,h=>by cases h
 |_::_,[],h=>by cases h
 |_::_,.BoolOp .. :: _,h=>by cases h
 |_::_,.NamedExpr .. :: _,h=>by cases h
 |_::_,.BinOp .. :: _,h=>by cases h
 |_::_,.UnaryOp .. :: _,h=>by cases h
 |_::_,.Lambda .. :: _,h=>by cases h
 |_::_,.IfExp .. :: _,h=>by cases h
 |_::_,.Dict .. :: _,h=>by cases h
 |_::_,.Set .. :: _,h=>by cases h
 |_::_,.ListComp .. :: _,h=>by cases h
 |_::_,.SetComp .. :: _,h=>by cases h
 |_::_,.DictComp .. :: _,h=>by cases h
 |_::_,.GeneratorExp .. :: _,h=>by cases h
 |_::_,.Await .. :: _,h=>by cases h
 |_::_,.Yield .. :: _,h=>by cases h
 |_::_,.YieldFrom .. :: _,h=>by cases h
 |_::_,.Compare .. :: _,h=>by cases h
 |_::_,.Call .. :: _,h=>by cases h
 |_::_,.FormattedValue .. :: _,h=>by cases h
 |_::_,.JoinedStr .. :: _,h=>by cases h
 |_::_,.Constant .. :: _,h=>by cases h
 |_::_,.Attribute .. :: _,h=>by cases h
 |_::_,.Subscript .. :: _,h=>by cases h
 |_::_,.Starred .. :: _,h=>by cases h
 |_::_,.List .. :: _,h=>by cases h
 |_::_,.Tuple .. :: _,h=>by cases h
 |_::_,.Slice .. :: _,h=>by cases h
theorem s_tg{t:Tgt}{tg:Expr}(g:GOk Γ cn X)(h:rJ Γ t tg=true):PG X tg (gOf X.K t):=by
 unfold rJ at h;split at h
 ·obtain⟨a,b,c,d⟩:=EO g h
  exact Dn a b c d
 ·obtain⟨h1,h2,h3⟩:=IJ g h
  exact KQ g.calm h1 h2 h3
 ·cases h
theorem Gn{env:Env}(h:Gm e=true):∀whole,isTrue e env whole=(do let v ←whole;standAt e.pos;holding [v] (truthy v)):=by
 intro w;cases e with
 |UnaryOp op a p=>cases op<;>first | rfl | exact absurd (show false=true from h) Bool.false_ne_true
 |BoolOp _ _ _=>exact absurd (show false=true from h) Bool.false_ne_true
 |IfExp _ _ _ _=>exact absurd (show false=true from h) Bool.false_ne_true
 |Compare _ _ _ _=>exact absurd (show false=true from h) Bool.false_ne_true
 |_=>rfl
theorem Kb:∀n∈uR,bootBuiltins (Str.ofString n)=some (.type n):=by decide +kernel
theorem Kc:∀n∈uR,Str.ofString n≠("__name__" : Str):=by decide +kernel
theorem uV{t:WT}(h:PTd X e t)(hp:(∃vs p,e=.BoolOp .And vs p) \/ ∃vs p,e=.BoolOp .Or vs p):PWd X e t:=by
 rcases hp with⟨vs,p,rfl⟩ | ⟨vs,p,rfl⟩
 ·intro σ M ρ H Q rs rm q whole pins s I
  exact h σ M ρ H Q rs rm q pins s I
 ·intro σ M ρ H Q rs rm q whole pins s I
  exact h σ M ρ H Q rs rm q pins s I
mutual
theorem sE:∀(ir:E){Γ:Gam}{cn:Cn}{X:Cx}{e:Expr},GOk Γ cn X->chkE Γ ir e=true->PEd X e (wE cn ir)
 |.var i,Γ,cn,X,e,g,h=>by
  unfold chkE at h;split at h
  ·unfold Gk at h
   simp only[Bool.and_eq_true,decide_eq_true_eq,Bool.not_eq_true'] at h;rw[wE];exact Jz (by rw[g.N];exact h.1.1.1) (by rw[g.sc];exact HX h.1.1.2) h.1.2 h.2
  ·cases h
 |.int i,Γ,cn,X,e,g,h=>by
  unfold chkE at h;split at h
  ·cases of_decide_eq_true h;rw[wE];exact JA
  ·cases h
 |.str i,Γ,cn,X,e,g,h=>by
  unfold chkE at h;split at h
  ·cases of_decide_eq_true h;rw[wE];exact JB
  ·cases h
 |.bl i,Γ,cn,X,e,g,h=>by
  unfold chkE at h;split at h
  ·cases of_decide_eq_true h;rw[wE];exact Lu
  ·cases h
 |.non,Γ,cn,X,e,g,h=>by
  unfold chkE at h;split at h
  ·rw[wE];exact JC
  ·cases h
 |.glob j,Γ,cn,X,e,g,h=>by
  unfold chkE at h;split at h
  ·rw[Bool.and_eq_true] at h
   obtain⟨h1,h2⟩:=s_gl g h.1;rw[wE];exact Hj h1 (g.glob j _ (of_decide_eq_true h.2)) h2
  ·cases h
 |.ty n,Γ,cn,X,e,g,h=>by
  unfold chkE at h;split at h
  ·simp only[Bool.and_eq_true,decide_eq_true_eq] at h
   obtain⟨⟨⟨h1,h2⟩,rfl⟩,h4⟩:=h;obtain⟨h5,h6⟩:=s_gl g h1;have h4:n∈uR:=by simpa using h4
   rw[wE];exact rg (IU (v:=.ty n) h5 (g.blt _ h2) (Kb n h4) rfl (Kc n h4) h6) fun _=>RV.ty_.2 rfl
  ·cases h
 |.bin o a b,Γ,cn,X,e,g,h=>by
  unfold chkE at h;split at h
  ·simp only[Bool.and_eq_true,decide_eq_true_eq] at h
   obtain⟨⟨rfl,h2⟩,h3⟩:=h;rw[wE];exact JD (JY o) (sE a g h2) (sE b g h3)
  ·cases h
 |.cmp o a b,Γ,cn,X,e,g,h=>by
  unfold chkE at h;split at h
  ·simp only[Bool.and_eq_true,decide_eq_true_eq,Bool.not_eq_true'] at h
   obtain⟨⟨⟨rfl,h2⟩,h3⟩,h4⟩:=h;rw[wE];exact JE (DG g.hu o) (sE a g h2) (sE b g h3) h4
  ·cases h
 |.and a b,Γ,cn,X,e,g,h=>by
  unfold chkE at h;split at h
  ·rw[Bool.and_eq_true] at h
   rw[wE];exact Dx (sE a g h.1) (Dw (sE b g h.2))
  ·rw[Bool.and_eq_true] at h
   rw[wE];exact Dx (sE a g h.1) (sE b g h.2)
  ·cases h
 |.or a b,Γ,cn,X,e,g,h=>by
  unfold chkE at h;split at h
  ·rw[Bool.and_eq_true] at h
   rw[wE];exact FR (sE a g h.1) (Dw (sE b g h.2))
  ·rw[Bool.and_eq_true] at h
   rw[wE];exact FR (sE a g h.1) (sE b g h.2)
  ·cases h
 |.not a,Γ,cn,X,e,g,h=>by
  unfold chkE at h;split at h
  ·rw[wE];exact JI (sE a g h)
  ·cases h
 |.ite c a b,Γ,cn,X,e,g,h=>by
  unfold chkE at h;split at h
  ·simp only[Bool.and_eq_true] at h
   rw[wE];exact FS (sT c g h.1.1) (sE a g h.1.2) (sE b g h.2)
  ·cases h
 |.fn j es,Γ,cn,X,e,g,h=>by
  unfold chkE at h;split at h
  ·simp only[Bool.and_eq_true,decide_eq_true_eq] at h
   obtain⟨⟨⟨⟨h1,h2⟩,h3⟩,h4⟩,h5⟩:=h;obtain⟨h6,h7⟩:=s_gl g h1;obtain⟨k,Fj,hr⟩:=g.fns j _ h2;rw[wE];rcases Fj with Fj | ⟨k',rfl,Fj⟩
   ·exact JO Fj hr h6 h7 h3 h4 (sEs es g h5)
   ·exact HE Fj hr h6 h7 h3 h4 (sEs es g h5)
  ·cases h
 |.bi b es,Γ,cn,X,e,g,h=>by
  unfold chkE at h;split at h
  ·simp only[Bool.and_eq_true,decide_eq_true_eq] at h
   obtain⟨⟨⟨⟨⟨h1,h2⟩,rfl⟩,h3⟩,h4⟩,h5⟩:=h;obtain⟨h6,h7⟩:=s_gl g h1;rw[wE];exact LL b g.calm h6 (g.blt _ h2) h3 h4 (sEs es g h5)
  ·cases h
 |.bj b es,Γ,cn,X,e,g,h=>by
  unfold chkE at h;split at h
  ·simp only[Bool.and_eq_true,decide_eq_true_eq] at h
   obtain⟨⟨⟨⟨⟨h1,h2⟩,rfl⟩,h3⟩,h4⟩,h5⟩:=h;obtain⟨h6,h7⟩:=s_gl g h1;rw[wE];exact LQ b g.calm h6 (g.blt _ h2) h3 h4 (sEs es g h5)
  ·cases h
 |.bk b es,Γ,cn,X,e,g,h=>by
  unfold chkE at h;split at h
  ·simp only[Bool.and_eq_true,decide_eq_true_eq] at h
   obtain⟨⟨⟨⟨⟨h1,h2⟩,rfl⟩,h3⟩,h4⟩,h5⟩:=h;obtain⟨h6,h7⟩:=s_gl g h1;rw[wE];exact LR b g.calm h6 (g.blt _ h2) h3 h4 (sEs es g h5)
  ·cases h
 |.lenSet a,Γ,cn,X,e,g,h=>by
  unfold chkE at h;split at h
  ·simp only[Bool.and_eq_true,decide_eq_true_eq] at h
   obtain⟨⟨⟨⟨⟨⟨⟨h1,h2⟩,rfl⟩,h3⟩,h4⟩,rfl⟩,h5⟩,h6⟩:=h;rw[wE];exact EF g.calm (s_gl g h1).1 (g.blt _ h2) (s_gl g h3).1 (g.blt _ h4) (sE a g h6) h5
  ·cases h
 |.lrg es,Γ,cn,X,e,g,h=>by
  unfold chkE at h;split at h
  ·simp only[Bool.and_eq_true,decide_eq_true_eq] at h
   obtain⟨⟨⟨⟨⟨⟨⟨h1,h2⟩,rfl⟩,h3⟩,h4⟩,rfl⟩,h5⟩,h6⟩:=h;rw[wE];exact HR g.calm (s_gl g h1).1 (g.blt _ h2) (s_gl g h3).1 (g.blt _ h4) (sEs es g h6) h5
  ·simp only[Bool.and_eq_true,decide_eq_true_eq] at h
   obtain⟨⟨⟨⟨⟨⟨⟨⟨h1,h2⟩,rfl⟩,h3⟩,h4⟩,rfl⟩,h5⟩,h5'⟩,h6⟩:=h;rw[wE];exact HS g.calm (s_gl g h1).1 (g.blt _ h2) (s_gl g h3).1 (g.blt _ h4) (sEs es g h6) h5 h5'
  ·cases h
 |.mt m o es,Γ,cn,X,e,g,h=>by
  unfold chkE at h;split at h
  ·simp only[Bool.and_eq_true,decide_eq_true_eq] at h
   obtain⟨⟨⟨⟨⟨⟨⟨rfl,h1⟩,h2⟩,h3⟩,h4⟩,h5⟩,h6⟩,h7⟩:=h;rw[wE];exact J4 g.hu m (sE o g h1) (sEs es g h7) h2 h3 h4 h5 h6
  ·cases h
 |.mt0 m o,Γ,cn,X,e,g,h=>by
  unfold chkE at h;split at h
  ·simp only[Bool.and_eq_true,decide_eq_true_eq] at h
   obtain⟨⟨⟨rfl,h1⟩,h2⟩,h3⟩:=h;rw[wE];exact HA g.hu m (sE o g h1) h2 h3
  ·cases h
 |.ix a b,Γ,cn,X,e,g,h=>by
  unfold chkE at h;split at h
  ·simp only[Bool.and_eq_true] at h
   rw[wE];exact LE g.hu (sE a g h.1.1) (sE b g h.1.2) h.2
  ·cases h
 |.sl a lo hi,Γ,cn,X,e,g,h=>by
  unfold chkE at h;split at h
  ·simp only[Bool.and_eq_true] at h
   rw[wE];exact LG (sE a g h.1.1) (sEo lo g h.1.2) (sEo hi g h.2)
  ·cases h
 |.lst es,Γ,cn,X,e,g,h=>by
  unfold chkE at h;split at h
  ·simp only[Bool.and_eq_true,decide_eq_true_eq] at h
   rw[wE];exact JN (sEs es g h.1) h.2
  ·cases h
 |.tup es,Γ,cn,X,e,g,h=>by
  unfold chkE at h;split at h
  ·simp only[Bool.and_eq_true,decide_eq_true_eq] at h
   rw[wE];exact JM (sEs es g h.1) h.2
  ·cases h
 |.comp n el t i c,Γ,cn,X,e,g,h=>by
  unfold chkE at h;split at h
  ·simp only[Bool.and_eq_true,decide_eq_true_eq] at h
   obtain⟨⟨⟨⟨⟨⟨⟨h1,rfl⟩,rfl⟩,h2⟩,h3⟩,h4⟩,h5⟩,h6⟩:=h;rw[wE];exact Hr (g.cscope h1) g.sc g.calm (sI i g h2) (fun C s H0 ex pn=>s_tg (g.comp h1) h4) (fun C s H0 ex pn=>sTo c (Γ:=inComp Γ _) (g.comp h1) h5) (fun C s H0 ex pn=>sE el (Γ:=inComp Γ _) (g.comp h1) h6) h3
  ·cases h
 |.neg a,Γ,cn,X,e,g,h=>by
  unfold chkE at h;split at h
  ·rw[wE];exact J5 (sE a g h)
  ·cases h
 |.inv a,Γ,cn,X,e,g,h=>by
  unfold chkE at h;split at h
  ·rw[wE];exact J6 (sE a g h)
  ·cases h
 |.dnew,Γ,cn,X,e,g,h=>by
  unfold chkE at h;split at h
  ·rw[wE];exact HC
  ·cases h
 |.fld o f,Γ,cn,X,e,g,h=>by
  unfold chkE at h;split at h
  ·simp only[Bool.and_eq_true,decide_eq_true_eq] at h
   obtain⟨⟨h1,rfl⟩,h3⟩:=h;rw[wE];exact J8 g.flds (sE o g h1) h3
  ·cases h
 |.mu m o es,Γ,cn,X,e,g,h=>by
  unfold chkE at h;split at h
  ·simp only[Bool.and_eq_true,decide_eq_true_eq] at h
   obtain⟨⟨⟨⟨⟨⟨⟨rfl,h1⟩,h2⟩,h3⟩,h4⟩,h5⟩,h6⟩,h7⟩:=h;rw[wE];exact HF g.mts (sE o g h1) (sEs es g h7) h2 h3 h4 h5 h6
  ·cases h
 |.mu0 m o,Γ,cn,X,e,g,h=>by
  unfold chkE at h;split at h
  ·simp only[Bool.and_eq_true,decide_eq_true_eq] at h
   obtain⟨⟨⟨rfl,h1⟩,h2⟩,h3⟩:=h;rw[wE];exact Gb g.mts (sE o g h1) h2 h3
  ·cases h
theorem sP:∀(ir:Ps){Γ:Gam}{cn:Cn}{X:Cx}{ks:List (Option Expr)}{vs:List Expr},GOk Γ cn X->chkP Γ ir ks vs=true->PPd X ks vs (wP cn ir)
 |.nil,Γ,cn,X,ks,vs,g,h=>by
  unfold chkP at h;split at h
  ·rw[wP];exact .nil
  ·cases h
 |.cons k v r,Γ,cn,X,ks,vs,g,h=>by
  unfold chkP at h;split at h
  ·simp only[Bool.and_eq_true] at h
   rw[wP];exact .cons (sE k g h.1.1) (sE v g h.1.2) (sP r g h.2)
  ·cases h
theorem sEs:∀(ir:Es){Γ:Gam}{cn:Cn}{X:Cx}{es:List Expr},GOk Γ cn X->c9 Γ ir es=true->PAd X es (wEs cn ir)
 |.nil,Γ,cn,X,es,g,h=>by
  unfold c9 at h;split at h
  ·rw[wEs];exact JL
  ·cases h
 |.cons e r,Γ,cn,X,es,g,h=>by
  unfold c9 at h;split at h
  ·simp only[Bool.and_eq_true] at h
   rw[wEs];exact Hl (sE e g h.1.1) (sEs r g h.2) h.1.2
  ·cases h
theorem sEo:∀(ir:Eo){Γ:Gam}{cn:Cn}{X:Cx}{e:Option Expr},GOk Γ cn X->uT Γ ir e=true->POd X e (wEo cn ir)
 |.no,Γ,cn,X,e,g,h=>by
  unfold uT at h;split at h
  ·rw[wEo];exact Hv
  ·cases h
 |.yes a,Γ,cn,X,e,g,h=>by
  unfold uT at h;split at h
  ·rw[wEo];exact Hw (sE a g h)
  ·cases h
theorem sTo:∀(ir:To){Γ:Gam}{cn:Cn}{X:Cx}{e:List Expr},GOk Γ cn X->uU Γ ir e=true->PTsd X e (wTo cn ir)
 |.no,Γ,cn,X,e,g,h=>by
  unfold uU at h;split at h
  ·rw[wTo];exact .inl ⟨rfl,rfl⟩
  ·cases h
 |.yes a,Γ,cn,X,e,g,h=>by
  unfold uU at h;split at h
  ·rw[wTo];exact .inr ⟨_,rfl,sT a g h⟩
  ·cases h
theorem sT:∀(ir:T){Γ:Gam}{cn:Cn}{X:Cx}{e:Expr},GOk Γ cn X->chkT Γ ir e=true->PTd X e (wT cn ir)
 |.val a,Γ,cn,X,e,g,h=>by
  unfold chkT at h;rw[Bool.and_eq_true] at h;rw[wT];exact JK (sE a g h.1) (Gn h.2)
 |.cmp o a b,Γ,cn,X,e,g,h=>by
  unfold chkT at h;split at h
  ·simp only[Bool.and_eq_true,decide_eq_true_eq,Bool.not_eq_true'] at h
   obtain⟨⟨⟨rfl,h2⟩,h3⟩,h4⟩:=h;rw[wT];exact JF (DG g.hu o) (sE a g h2) (sE b g h3) h4
  ·cases h
 |.and a b,Γ,cn,X,e,g,h=>by
  unfold chkT at h;split at h
  ·rw[Bool.and_eq_true] at h
   rw[wT];exact(Dv (sT a g h.1) (Hk (sT b g h.2))).pt
  ·rw[Bool.and_eq_true] at h
   rw[wT];exact(Dv (sT a g h.1) (uV (sT b g h.2) (.inl ⟨_,_,rfl⟩))).pt
  ·cases h
 |.or a b,Γ,cn,X,e,g,h=>by
  unfold chkT at h;split at h
  ·rw[Bool.and_eq_true] at h
   rw[wT];exact(FQ (sT a g h.1) (JH (sT b g h.2))).pt
  ·rw[Bool.and_eq_true] at h
   rw[wT];exact(FQ (sT a g h.1) (uV (sT b g h.2) (.inr ⟨_,_,rfl⟩))).pt
  ·cases h
 |.not a,Γ,cn,X,e,g,h=>by
  unfold chkT at h;split at h
  ·rw[wT];exact JG (sT a g h)
  ·cases h
theorem sI:∀(ir:I){Γ:Gam}{cn:Cn}{X:Cx}{tg e:Expr},GOk Γ cn X->chkI Γ ir tg e=true->PId X tg e (wI cn ir)
 |.seq a,Γ,cn,X,tg,e,g,h=>by
  unfold chkI at h;rw[wI];exact JU (sE a g h)
 |.enum es,Γ,cn,X,tg,e,g,h=>by
  unfold chkI at h;split at h
  ·simp only[Bool.and_eq_true,decide_eq_true_eq] at h
   obtain⟨⟨⟨⟨h1,h2⟩,rfl⟩,h3⟩,h4⟩:=h;rw[wI];exact HW (s_gl g h1).1 (g.blt _ h2) (sEs es g h4) h3
  ·cases h
 |.rg1 es,Γ,cn,X,tg,e,g,h=>by
  unfold chkI at h;split at h
  ·simp only[Bool.and_eq_true,decide_eq_true_eq] at h
   obtain⟨⟨⟨⟨h1,h2⟩,rfl⟩,h3⟩,h4⟩:=h;rw[wI];exact Eu (s_gl g h1).1 (g.blt _ h2) (sEs es g h4) h3
  ·cases h
end
theorem EQ{y:Str}{py sp pos:Pos}{elt:Expr}{gs:List Comprehension}{sc:Scope}(g:GOk Γ cn X)(h1:Γ.sc.names.lookup y=some .local)(h2:(py.line==pos.line)=true)(h3:(sc.names.any fun(p:Str×NameKind)=>p.1==y&&(p.2==.local || p.2==.cell))=false):
  swapsWith (.ListComp elt gs sc pos) (some (.Name y py)) sp.line X.env=pure true:=by
 show pure (X.env.blockKind==.function&&X.env.kindOf y==some .local && py.line==pos.line && !(sc.names.any fun(p:Str×NameKind)=>p.1==y&&(p.2==.local || p.2==.cell)))=(pure true:Sem Bool);have e1:X.env.blockKind=.function:=by
  unfold Env.blockKind;rw[g.sc,g.kind];rfl
 have e2:X.env.kindOf y=some .local:=by show X.env.scope.names.lookup y=_;rw[g.sc];exact h1
 rw[e1,e2,h2,h3];rfl
theorem HZ{tg v:Expr}{n:Nat}{env:Env}(h:eG v=true)(h':DT v=true):swapsWithSole [tg] v n env=pure false/\swappedStores [tg] v env=pure none:=by
 refine⟨ux h,?_⟩;cases v<;>first | (cases tg<;>rfl) | exact absurd (show false=true from h') Bool.false_ne_true
theorem Go{c:Expr}{body:List Stmt}{tc:WT}{tb:WS}(hp:PassesOwn (model X.prog X.w) X.A X.env X.xe)(hc:PTd X c tc)(hb:PSsd X body tb):PSd X (.While c body [] pos) (kG tc tb):=by
 intro σ M ρ H E rs rm q;obtain⟨W,⟨m0,w0⟩,step⟩:=q;refine fM (GZ hp (pt_W c) (ow body)) ?_;refine⟨fun m ρ' H'=>Kp H H'/\∃σ' M',RS X.K H' σ' ρ'/\RM X.K M' H'/\W m σ' M',⟨m0,Kp.refl H,σ,M,rs,rm,w0⟩,?_⟩;rintro m ρ' H' ⟨k,σ',M',rs',rm',w'⟩;refine iD (hc σ' M' ρ' H' _ rs' rm' (step m σ' M' w')) fun b H1 zz1=>?_
 obtain⟨k1,M1,m1,q1⟩:=zz1;cases b with
 |true=>
  obtain⟨N,hN,q2⟩:=q1;refine⟨fun ρ2 H2=>Kp H H2/\∃σ2 M2,RS X.K H2 σ2 ρ2/\RM X.K M2 H2/\N σ2 M2,fun ρ2 H2 ⟨k2,σ2,M2,a,b,n⟩=>let⟨m',h1,h2⟩:=hN σ2 M2 n;⟨m',h1,k2,σ2,M2,a,b,h2⟩,?_⟩;refine fN (hb σ' M1 ρ' H1 _ (rs'.mono k1) m1 q2) ⟨fun ρ4 H4 zz2=>?_,fun _ _=>bN (k.trans k1),fun _ _=>lZ (k.trans k1),fun ρ4 H4 ⟨k4,σ4,M4,a,b,c⟩=>⟨(k.trans k1).trans k4,σ4,M4,a,b,c⟩⟩;obtain⟨k4,σ4,M4,a,b,c⟩:=zz2;exact⟨(k.trans k1).trans k4,σ4,M4,a,b,c⟩
 |false=>exact⟨k.trans k1,σ',M1,rs'.mono k1,m1,q1⟩
mutual
theorem sS:∀(ir:S){Γ:Gam}{cn:Cn}{X:Cx}{st:Stmt},GOk Γ cn X->chkS Γ ir st=true->PSd X st (wS cn ir)
 |.set i e,Γ,cn,X,st,g,h=>by
  unfold chkS at h;split at h
  ·simp only[Bool.and_eq_true] at h
   obtain⟨a,b,c,d⟩:=EO g h.1.1;rw[wS];exact JQ a b c d h.1.2 (sE e g h.2)
  ·cases h
 |.setC i n e t j c,Γ,cn,X,st,g,h=>by
  unfold chkS at h;split at h
  ·simp only[Bool.and_eq_true,decide_eq_true_eq,Bool.not_eq_true'] at h
   obtain⟨⟨⟨⟨⟨⟨⟨⟨⟨⟨⟨a1,a2⟩,a3⟩,a4⟩,h1⟩,rfl⟩,rfl⟩,h2⟩,h3⟩,h4⟩,h5⟩,h6⟩:=h;rw[wS];exact Hs (g.cscope h1) g.sc g.calm (by rw[g.N];exact g.nd) (by rw[g.N];exact a1) (by rw[g.sc];exact a2) (sI j g h2) (fun C s H0 ex pn=>s_tg (g.comp h1) h4)
    (fun C s H0 ex pn=>sTo c (Γ:=inComp Γ _) (g.comp h1) h5) (fun C s H0 ex pn=>sE e (Γ:=inComp Γ _) (g.comp h1) h6) h3 (EQ g a2 a3 a4)
  ·cases h
 |.asg t e,Γ,cn,X,st,g,h=>by
  unfold chkS at h;split at h
  ·simp only[Bool.and_eq_true] at h
   obtain⟨⟨⟨h1,h2⟩,h3⟩,h4⟩:=h;obtain⟨q1,q2⟩:=HZ h2 h3;rw[wS];exact JR (sE e g h4) (s_tg g h1) q1 q2 rfl
  ·cases h
 |.expr e,Γ,cn,X,st,g,h=>by
  unfold chkS at h;split at h
  ·simp only[Bool.and_eq_true] at h
   rw[wS];exact Hq (sE e g h.2) h.1
  ·cases h
 |.ret e,Γ,cn,X,st,g,h=>by
  unfold chkS at h;split at h
  ·rw[wS];exact JP (sE e g h)
  ·cases h
 |.ite t a b,Γ,cn,X,st,g,h=>by
  unfold chkS at h;split at h
  ·simp only[Bool.and_eq_true] at h
   rw[wS];exact Lv (sT t g h.1.1) (sSs a g h.1.2) (sSs b g h.2)
  ·cases h
 |.for t j b,Γ,cn,X,st,g,h=>by
  unfold chkS at h;split at h
  ·simp only[Bool.and_eq_true] at h
   rw[wS];exact JV g.own g.calm (sI j g h.1.1.2) (s_tg g h.1.1.1) (sSs b g h.2) h.1.2
  ·cases h
 |.pass,Γ,cn,X,st,g,h=>by
  unfold chkS at h;split at h
  ·rw[wS];exact Ho
  ·cases h
 |.never,Γ,cn,X,st,g,h=>by rw[wS];exact FV
 |.putIx o i e,Γ,cn,X,st,g,h=>by
  unfold chkS at h;split at h
  ·simp only[Bool.and_eq_true] at h
   rw[wS];exact Ga g.hu (sE e g h.1.1.2) (sE o g h.1.1.1.1) (sE i g h.1.1.1.2) h.1.2 h.2
  ·cases h
 |.setF o f e,Γ,cn,X,st,g,h=>by
  unfold chkS at h;split at h
  ·simp only[Bool.and_eq_true,decide_eq_true_eq] at h
   obtain⟨⟨h1,rfl⟩,h3⟩:=h;rw[wS];exact HD g.flds (sE o g h1) (sE e g h3)
  ·cases h
 |.while t b,Γ,cn,X,st,g,h=>by
  unfold chkS at h;split at h
  ·simp only[Bool.and_eq_true] at h
   rw[wS];exact Go g.own (sT t g h.1) (sSs b g h.2)
  ·cases h
theorem sSs:∀(ir:Ss){Γ:Gam}{cn:Cn}{X:Cx}{st:List Stmt},GOk Γ cn X->ao Γ ir st=true->PSsd X st (wSs cn ir)
 |.nil,Γ,cn,X,st,g,h=>by
  unfold ao at h;split at h
  ·rw[wSs];exact Hn
  ·cases h
 |.cons s r,Γ,cn,X,st,g,h=>by
  unfold ao at h;split at h
  ·simp only[Bool.and_eq_true] at h
   rw[wSs];exact FU (sS s g h.1) (sSs r g h.2)
  ·cases h
end
end
section
variable {P : Program} {w : World} {K : PySem.W.Frag} {mg : Str -> Option Value} {base : Heap}
structure Names (P:Program) (w:World) (K:PySem.W.Frag) (mg:Str->Option Value) (base:Heap) (k:Nat) (glob:List Str) (blt:List Str) (fns:List Str) (cn:Cn):Prop where
 glob:∀(j:Nat) x,glob[j]?=some x->qe K mg x (cn.G.getD j .non)
 blt:∀x,blt.contains x=true->mg x=none
 fns:∀(j:Nat) x,fns[j]?=some x->∃k',k'<=k/\dQ P w K mg base k' x (cn.F.getD j fun _ _ _=>False)
 flds:∀C f,cn.O C f->Cls K C/\cf K C f
 mts:∀C m sp,cn.T C m=some sp->∃k',k'<=k/\aO P w K mg base k' C m sp
 isi:∀C d b,cn.I C d=some b->IsiOk K C d b
theorem aE{x:Str}{st:Stmt}{ps N:List Str}{f:Addr}{fd:FuncData}{k:Nat}{sp:SpD}{ir:Ss}{glob:List Str}{blt:List Str}{fns:List Str}{cn:Cn}(D0:IsDef K mg x st ps f fd)(S:FnScope N ps (aa st))(nm:Names P w K mg base k glob blt fns cn)
  (hc:ao ⟨N,aa st,true,glob,blt,fns⟩ ir (ae st)=true) (len:∀ds M Q,sp ds M Q->ds.length=ps.length)
  (h:∀ds M Q,sp ds M Q->wSs cn ir { nx:=fun _ M'=>Q .non M',rt:=Q } (ag N ds) M):FnD P w K mg base (k+1) x sp:=by
 refine fnD D0 S len (fun cdv A outer s H E hr=>?_) h;exact sSs ir (Γ:=⟨N,aa st,true,glob,blt,fns⟩) ⟨rfl,rfl,S.kind,S.nd,rfl,fun _ _=>rfl,PassesOwn.never,nm.glob,nm.blt,fun j x e=>let⟨k',h1,h2⟩:=nm.fns j x e;⟨k',h2,hr.mono h1⟩,nm.flds,fun C m sp e=>let⟨k',h1,h2⟩:=nm.mts C m sp e;⟨k',h2,hr.mono h1⟩,nm.isi,Nat.lt_of_le_of_lt (Nat.add_le_add_left (by decide:40<=64) _) hr.units⟩ hc
theorem Ad{x qual:Str}{st:Stmt}{ps N:List Str}{f:Addr}{fd:FuncData}{k:Nat}{sp:SpD}{ir:Ss}{glob:List Str}{blt:List Str}{fns:List Str}{cn:Cn}(D0:Fun K x qual st f fd)(S:FnScope N ps (aa st))(nm:Names P w K mg base k glob blt fns cn)
  (hc:ao ⟨N,aa st,true,glob,blt,fns⟩ ir (ae st)=true) (len:∀ds M Q,sp ds M Q->ds.length=ps.length)
  (h:∀ds M Q,sp ds M Q->wSs cn ir { nx:=fun _ M'=>Q .non M',rt:=Q } (ag N ds) M):FnOk P w K mg base CX0 (k+1) f fd ps (iX K sp):=by
 refine D0.ok S (fun vs H Q E ⟨ds,M,Q0,r,_,s,_⟩=>by rw[←r.len];exact len ds M Q0 s) fun cdv A outer s H vs Q E hr ⟨ds,M,Q0,r,m,sq,f0⟩=>⟨tWSs _ _,ow _,?_⟩
 have hb:=sSs ir (Γ:=⟨N,aa st,true,glob,blt,fns⟩) (X:=(cxOf CX0 P w K mg base N qual (aa st) f cdv A outer s H E).nox) ⟨rfl,rfl,S.kind,S.nd,rfl,fun _ _=>rfl,PassesOwn.never,nm.glob,nm.blt,fun j x e=>let⟨k',h1,h2⟩:=nm.fns j x e;⟨k',h2,hr.mono h1⟩,nm.flds,fun C m sp e=>let⟨k',h1,h2⟩:=nm.mts C m sp e;⟨k',h2,hr.mono h1⟩,nm.isi,Nat.lt_of_le_of_lt (Nat.add_le_add_left (by decide:40<=64) _) hr.units⟩ hc;refine fN (hb (ag N ds) M (L2.start N vs) H _ (zT r) m (h ds M Q0 sq)) ⟨fun ρ' H' zz5=>?_,fun v H' ⟨k',d,M',r',m',q⟩=>f0 _ _ _ _ q k' r' m',fun _ _ ⟨_,_,_,_,_,q⟩=>q,fun _ _ ⟨_,_,_,_,_,q⟩=>q⟩;obtain⟨k',σ',M',_,m',q⟩:=zz5;exact f0 _ _ _ _ q k' (RV.non_.2 rfl) m'
end
end DD
namespace DD
open PySem PySem.Spec PyProof.Rows L2
def uW(K:PySem.W.Frag):Bool:=K.all fun p=>match p.2.cls with
 |.type t=>!(t == "list")
 |_=>true
theorem yg{a:Addr}{o:Obj}:∀{K:PySem.W.Frag},uW K=true->K.lookup a=some o->o.cls=.type "list"->False
 |[],_,h,_=>by cases h
 |(b,p)::K,hn,h,hc=>by
  unfold uW at hn;rw[List.all_cons,Bool.and_eq_true] at hn;rw[List.lookup_cons] at h;split at h
  ·cases h
   have h1:=hn.1;simp only[hc] at h1;exact absurd h1 (by decide)
  ·exact yg (K:=K) hn.2 h hc
theorem Ae{K:PySem.W.Frag}{H:Hp}:∀(ns:List Int),RVs K H (ns.map D.int) (ns.map V.int)
 |[]=>.nil
 |n::ns=>.cons (RV.int_.2 rfl) (Ae ns)
def rK(a:Addr)(ns:List Int):MH:=fun b=>if b=a then some (.rol (ns.map D.int)) else none
def zy(n:Nat)(sp:SpD):Prop:=∀a ns,ns.length<=n->sp [.ref a] (rK a ns) fun d _=>d=.bl true
theorem LU{K:PySem.W.Frag}{H:Hp}{a:Addr}{ns:List Int}{n:Nat}{sp:SpD}(hK:uW K=true)(hs:zy n sp)(hl:ns.length<=n)(hS:SqL K H a (ns.map V.int))(E:XK):iX K sp [.ref a] H (fun v _=>v=.bl true) E:=by
 rcases hS with hS | ⟨o,its,m,h1,h2,_⟩
 ·refine⟨[.ref a],rK a ns,fun d _=>d=.bl true,.cons (RV.ref_.2 rfl) .nil,fun b o e=>?_,hs a ns hl,fun d M' v H' q _ r _=>?_⟩
  ·unfold rK at e
   split at e
   ·rename_i hb
    subst hb;cases e;exact⟨_,hS,Ae ns⟩
   ·cases e
  ·subst q
   exact RV.bl_.1 r
 ·exact(yg hK h1 h2).elim
mutual
noncomputable def j6(K:PySem.W.Frag):D->Value->Bool
 |.non,u=>match u with
  |.none=>true
  |_=>false
 |.bl b,u=>match u with
  |.bool c=>decide (b=c)
  |_=>false
 |.int i,u=>match u with
  |.int j _=>decide (i=j)
  |_=>false
 |.str x,u=>match u with
  |.str y _=>decide (x=y)
  |_=>false
 |.ty n,u=>match u with
  |.type m=>decide (n=m)
  |_=>false
 |.ref a,u=>match u with
  |.ref b=>decide (a=b)
  |_=>false
 |.tup ds,u=>match u with
  |.ref a=>(match K.lookup a with
   |some ⟨.type t,_,.seq its _,_⟩=>decide (t = "tuple")&&decide (its.size<=sizeLine)&&ql K ds its.toList
   |_=>false)
  |_=>false
noncomputable def ql(K:PySem.W.Frag):List D->List Value->Bool
 |[],us=>us.isEmpty
 |d::ds,us=>match us with
  |u::us=>j6 K d u&&ql K ds us
  |[]=>false
end
mutual
theorem Af{K:PySem.W.Frag}:∀(d:D){u:Value},j6 K d u=true->∃v,RelV v u/\∀H,RV K H d v
 |.non,u,h=>by
  unfold j6 at h;split at h
  ·exact⟨.non,rfl,fun _=>RV.non_.2 rfl⟩
  ·cases h
 |.bl b,u,h=>by
  unfold j6 at h;split at h
  ·cases of_decide_eq_true h;exact⟨.bl _,rfl,fun _=>RV.bl_.2 rfl⟩
  ·cases h
 |.int b,u,h=>by
  unfold j6 at h;split at h
  ·cases of_decide_eq_true h;exact⟨.int _,⟨_,rfl⟩,fun _=>RV.int_.2 rfl⟩
  ·cases h
 |.str b,u,h=>by
  unfold j6 at h;split at h
  ·cases of_decide_eq_true h;exact⟨.str _,⟨_,rfl⟩,fun _=>RV.str_.2 rfl⟩
  ·cases h
 |.ty b,u,h=>by
  unfold j6 at h;split at h
  ·cases of_decide_eq_true h;exact⟨.ty _,rfl,fun _=>RV.ty_.2 rfl⟩
  ·cases h
 |.ref a,u,h=>by
  unfold j6 at h;split at h
  ·cases of_decide_eq_true h;exact⟨.ref _,rfl,fun _=>RV.ref_.2 rfl⟩
  ·cases h
 |.tup ds,u,h=>by
  unfold j6 at h;split at h
  ·rename_i a
   split at h
   ·rename_i t od its n sl e
    simp only[Bool.and_eq_true,decide_eq_true_eq] at h;obtain⟨⟨h1,h2⟩,h3⟩:=h;obtain⟨vs,r1,r2⟩:=yh ds h3;exact⟨.ref a,rfl,fun H=>RV.tup_.2 ⟨a,vs,rfl,.inr ⟨_,its,n,e,by rw[h1],rfl,h2,r1⟩,r2 H⟩⟩
   ·cases h
  ·cases h
theorem yh{K:PySem.W.Frag}:∀(ds:List D){us:List Value},ql K ds us=true->∃vs,Vals vs us/\∀H,RVs K H ds vs
 |[],us,h=>by
  unfold ql at h;cases us with
  |nil=>exact⟨[],.nil,fun _=>.nil⟩
  |cons u us=>cases h
 |d::ds,us,h=>by
  unfold ql at h;split at h
  ·rename_i u us
   rw[Bool.and_eq_true] at h;obtain⟨v,r1,r2⟩:=Af d h.1;obtain⟨vs,r3,r4⟩:=yh ds h.2;exact⟨v::vs,.cons r1 r3,fun H=>.cons (r2 H) (r4 H)⟩
  ·cases h
end
def rL(K:PySem.W.Frag):List Str->List D->Bool
 |[],_=>true
 |x::xs,ds=>(match PySem.W.nsIn K mainGlobals x with
  |some (some u)=>j6 K (ds.headD .non) u
  |_=>false)&&rL K xs ds.tail
theorem uX{K:PySem.W.Frag}{h:Heap}{mg:Str->Option Value}(X:K.In h)(G:h.Ns mainGlobals mg):∀{xs:List Str}{ds:List D},rL K xs ds=true->∀(j:Nat) x,xs[j]?=some x->qe K mg x (ds.getD j .non)
 |[],_,_,j,x,e=>by cases e
 |y::xs,ds,hk,j,x,e=>by
  unfold rL at hk;rw[Bool.and_eq_true] at hk;cases j with
  |zero=>
   have e:y=x:=by simpa using e
   subst e;have h1:=hk.1;split at h1
   ·rename_i u q
    obtain⟨v,r1,r2⟩:=Af _ h1;have:ds.getD 0 .non=ds.headD .non:=by cases ds<;>rfl
    rw[this];exact⟨v,u,PySem.W.mg_of X G q,r1,r2⟩
   ·cases h1
  |succ j=>
   have:=uX X G hk.2 j x (by simpa using e)
   have e2:ds.getD (j+1) .non=ds.tail.getD j .non:=by cases ds<;>simp
   rw[e2];exact this
def Gp(K:PySem.W.Frag)(xs:List Str):Bool:=xs.all fun x=>match PySem.W.nsIn K mainGlobals x with
 |some none=>true
 |_=>false
theorem Gq{K:PySem.W.Frag}{h:Heap}{mg:Str->Option Value}(X:K.In h)(G:h.Ns mainGlobals mg){xs:List Str}(hk:Gp K xs=true):∀x,xs.contains x=true->mg x=none:=by
 intro x hx
 have:=List.all_eq_true.1 hk x (by simpa using hx)
 split at this
 ·rename_i q
  exact PySem.W.mg_none_of X G q
 ·cases this
theorem MN{l:PySem.W.OpenLaw}{n k:Nat}{q:Program}{loose:List Str}{XP:(Str->Option Value)->Heap->Prop}{YP:World->Heap->Prop}{d:DefRec}{K:Params->PySem.W.Frag}{sp:SpD}{x:Str}
  (hn:l.most=some n) (hn2:n<=sizeLine) (hdf:d.params.defaults=[]) (hr:Room k callerA) (hs:zy n sp)
  (hY:∀(w:World) (h:Heap),YP w h->(K w.params).In h) (hK:∀w:World,uW (K w.params)=true)
  (F:∀(w:World) (mg:Str->Option Value) (fa:Addr) (h:Heap),(K w.params).In h->h.Ns mainGlobals mg->mg d.name=some (.ref fa) ->
   ∃fd:FuncData,(∀(s:Shared) (u:Value),BindsTo s fd ⟨[u],[]⟩ [(x,u)]) /\
    ∀base:Heap,(K w.params).In base->base.Ns mainGlobals mg->FnOk l.prog w (K w.params) mg base CX0 k fa fd [x] (iX (K w.params) sp)):
  PySem.W.WalkO q loose XP YP l.row.toRowW d [] (fun f vs=>PySem.call f vs):=
 L2.Jt (n:=n) (k:=k) (x:=x) (CX:=fun _=>CX0) (sp:=fun w=>iX (K w.params) sp) hn hn2 hdf hr hY F (fun w _ a ns hl _ hS=>LU (hK w) hs hl hS _) fun _ _ _ _ _ z=>z
end DD
namespace DD
open PySem PySem.Spec PyProof.Rows L2
section
variable {P : Program} {w : World} {K : PySem.W.Frag} {mg : Str -> Option Value} {base : Heap} {k : Nat}
theorem af{F:List SpD}:∀(j:Nat) (x:Str),([]:List Str)[j]?=some x->∃k',k'<=k/\dQ P w K mg base k' x (F.getD j fun _ _ _=>False):=fun j x e=>by simp at e
theorem ad{y:Str}{ys:List Str}{sp:SpD}{F:List SpD}{k1:Nat}(h1:k1<=k)(h:dQ P w K mg base k1 y sp)(t:∀(j:Nat) (x:Str),ys[j]?=some x->∃k',k'<=k/\dQ P w K mg base k' x (F.getD j fun _ _ _=>False)):
  ∀(j:Nat) (x:Str),(y::ys)[j]?=some x->∃k',k'<=k/\dQ P w K mg base k' x ((sp::F).getD j fun _ _ _=>False):=fun j x e=>by
 cases j with
 |zero=>
  have:y=x:=by simpa using e
  subst this;exact⟨k1,h1,h⟩
 |succ j=>exact t j x (by simpa using e)
structure DefAt (K:PySem.W.Frag) (x:Str) (st:Stmt) (f:Addr) (fd:FuncData):Prop where
 ex:∃(oc:Value) (od an:Option Addr) (osl:Array (Option Value)) (kV doc pm cdv ct:Value),PySem.W.nsIn K mainGlobals x=some (some (.ref f)) /\
  fd=PySem.W.fnOf x x (bM st) (ae st) (aa st) .none kV doc pm an cdv ct/\K.lookup f=some ⟨oc,od,.func fd,osl⟩/\PySem.W.codeIn K cdv x=true/\PySem.W.keepIn K (.ref f)=true
theorem DefAt.mk'{x:Str}{st:Stmt}{f:Addr}{oc:Value}{od an:Option Addr}{osl:Array (Option Value)}{kV doc pm cdv ct:Value}
  (a:PySem.W.nsIn K mainGlobals x=some (some (.ref f))) (l:K.lookup f=some ⟨oc,od,.func (PySem.W.fnOf x x (bM st) (ae st) (aa st) .none kV doc pm an cdv ct),osl⟩)
  (c:PySem.W.codeIn K cdv x=true) (k:PySem.W.keepIn K (.ref f)=true):DefAt K x st f (PySem.W.fnOf x x (bM st) (ae st) (aa st) .none kV doc pm an cdv ct):=
 ⟨⟨oc,od,an,osl,kV,doc,pm,cdv,ct,a,rfl,l,c,k⟩⟩
theorem DefAt.def_{h:Heap}{x:Str}{st:Stmt}{ps:List Str}{f:Addr}{fd:FuncData}(A:DefAt K x st f fd)(X:K.In h)(G:h.Ns mainGlobals mg)
  (hb:∀(kV doc pm:Value) (an:Option Addr) (cdv ct:Value) (us:List Value),us.length=ps.length->bindArgs (PySem.W.fnOf x x (bM st) (ae st) (aa st) .none kV doc pm an cdv ct) ⟨us,[]⟩=pure (ps.zip us)):
  IsDef K mg x st ps f fd:=by
 obtain⟨oc,od,an,osl,kV,doc,pm,cdv,ct,a,rfl,l,c,k⟩:=A.ex;exact Hi X G a l c k hb
def isBt:Option (Option Value)->String->Bool
 |some (some (.builtin n)),s=>decide (n=s)
 |_,_=>false
def isNo:Option (Option Value)->Bool
 |some none=>true
 |_=>false
theorem Kd{o:Option (Option Value)}{s:String}(h:isBt o s=true):o=some (some (.builtin s)):=by
 unfold isBt at h;split at h
 ·cases of_decide_eq_true h;rfl
 ·cases h
theorem Ke{o:Option (Option Value)}(h:isNo o=true):o=some none:=by
 unfold isNo at h;split at h
 ·rfl
 ·cases h
def clsIn(K:PySem.W.Frag)(C:Addr)(fs:List Str):Bool:=
 PySem.W.plainGet K C Str.empty&&PySem.W.hasDictIn K C&&PySem.W.plainOver K C&&isBt (PySem.W.findIn K (.ref C) "__setattr__") "object.__setattr__" && fs.all (fun f=>isNo (PySem.W.findIn K (.ref C) f))
theorem aG{C:Addr}{fs:List Str}(h:clsIn K C fs=true):Cls K C:=by
 unfold clsIn at h;simp only[Bool.and_eq_true] at h;exact⟨h.1.1.1.1,h.1.1.1.2,h.1.1.2,Kd h.1.2⟩
theorem oz{C:Addr}{fs:List Str}{f:Str}(h:clsIn K C fs=true)(hf:f∈fs):cf K C f:=by
 unfold clsIn at h;simp only[Bool.and_eq_true] at h;exact Ke (List.all_eq_true.1 h.2 f hf)
structure MethAt (K:PySem.W.Frag) (C:Addr) (m qual:Str) (st:Stmt) (f:Addr) (fd:FuncData):Prop where
 at_:PySem.W.findIn K (.ref C) m=some (some (.ref f))
 fn:PySem.W.isFn K (.ref f)=true
 fun_:Fun K m qual st f fd
theorem MethAt.mk'{C:Addr}{m qual:Str}{st:Stmt}{f:Addr}{oc:Value}{od an:Option Addr}{osl:Array (Option Value)}{kV doc pm cdv ct:Value}
  (a:PySem.W.findIn K (.ref C) m=some (some (.ref f))) (l:K.lookup f=some ⟨oc,od,.func (PySem.W.fnOf m qual (bM st) (ae st) (aa st) .none kV doc pm an cdv ct),osl⟩)
  (n:PySem.W.isFn K (.ref f)=true) (c:PySem.W.codeIn K cdv qual=true) (k:PySem.W.keepIn K (.ref f)=true):MethAt K C m qual st f (PySem.W.fnOf m qual (bM st) (ae st) (aa st) .none kV doc pm an cdv ct):=
 ⟨a,n,zK l c k⟩
theorem MethAt.meth{C:Addr}{m qual:Str}{st:Stmt}{f:Addr}{fd:FuncData}(A:MethAt K C m qual st f fd):Meth K C m f:=⟨A.at_,A.fn,A.fun_.kp⟩
theorem aR{C:Addr}{m qual:Str}{st:Stmt}{ps N:List Str}{f:Addr}{fd:FuncData}{sp:SpD}{ir:Ss}{glob:List Str}{blt:List Str}{fns:List Str}{cn:Cn}(cl:Cls K C)(A:MethAt K C m qual st f fd)(S:FnScope N ps (aa st))(nm:Names P w K mg base k glob blt fns cn)
  (hb:∀(kV doc pm:Value) (an:Option Addr) (cdv ct:Value) (us:List Value),us.length=ps.length->bindArgs (PySem.W.fnOf m qual (bM st) (ae st) (aa st) .none kV doc pm an cdv ct) ⟨us,[]⟩=pure (ps.zip us))
  (hc:ao ⟨N,aa st,true,glob,blt,fns⟩ ir (ae st)=true) (len:∀ds M Q,sp ds M Q->ds.length=ps.length)
  (h:∀ds M Q,sp ds M Q->wSs cn ir { nx:=fun _ M'=>Q .non M',rt:=Q } (ag N ds) M):aO P w K mg base (k+1) C m sp:=
 ⟨f,fd,ps,cl,A.meth,A.fun_.binds hb,Ad A.fun_ S nm hc len h⟩
theorem l6{x:Str}{C:Addr}{qual:Str}{st:Stmt}{ps N:List Str}{f:Addr}{fd:FuncData}{sp:SpD}{ir:Ss}{glob:List Str}{blt:List Str}{fns:List Str}{cn:Cn}(hx:mg x=some (.ref C))(hm:PySem.W.makesIn K C=true)(hk:PySem.W.keepIn K (.ref C)=true)(A:MethAt K C "__init__" qual st f fd)
  (S:FnScope N ps (aa st)) (nm:Names P w K mg base k glob blt fns cn)
  (hb:∀(kV doc pm:Value) (an:Option Addr) (cdv ct:Value) (us:List Value),us.length=ps.length->bindArgs (PySem.W.fnOf "__init__" qual (bM st) (ae st) (aa st) .none kV doc pm an cdv ct) ⟨us,[]⟩=pure (ps.zip us))
  (hc:ao ⟨N,aa st,true,glob,blt,fns⟩ ir (ae st)=true) (len:∀ds M Q,sp ds M Q->ds.length=ps.length)
  (h:∀ds M Q,sp ds M Q->wSs cn ir { nx:=fun _ M'=>Q .non M',rt:=Q } (ag N ds) M):dQ P w K mg base (k+2) x (aX C sp):=
 .inr ⟨k+1,rfl,C,f,fd,ps,sp,⟨hm,A.at_,A.fn,hk⟩,hx,A.fun_.binds hb,Ad A.fun_ S nm hc len h,rfl⟩
end
end DD
namespace DD
open PySem PySem.Spec PyProof.Rows L2
theorem DefAt.fun_{K:PySem.W.Frag}{x:Str}{st:Stmt}{f:Addr}{fd:FuncData}(A:DefAt K x st f fd):Fun K x x st f fd:=by
 obtain⟨oc,od,an,osl,kV,doc,pm,cdv,ct,a,rfl,l,c,k⟩:=A.ex;exact zK l c k
end DD
namespace K62
open PySem PySem.Spec PyProof.Rows L2 DD
def top(i:Nat):Stmt:=PySem.Challenge.pw_notring_k62_a_tree_of_worlds.main.body.getD i (.Pass ⟨0,0,0,0⟩)
abbrev bltL:List Str:=["all", "bool", "enumerate", "int", "isinstance", "len", "list", "min", "range", "set", "sorted", "str", "tuple"]
abbrev aq:List Str:=["MOST_CONDS", "HIGHEST_NUMBER", "MOST_LISTED", "MOST_OPEN", "MOST_FACTS", "MOST_ROWS"]
abbrev lE:List D:=[(.int 6),(.int 6),(.int 6),(.int 12),(.int 120),(.int 400)]
abbrev iZ:Stmt:=top 2
abbrev i0:Stmt:=top 3
abbrev i3:Stmt:=top 4
abbrev l7:Stmt:=top 5
abbrev kH:Stmt:=top 6
abbrev gO:Stmt:=top 7
abbrev i5:Stmt:=top 18
abbrev gP:Stmt:=top 19
abbrev d8:Stmt:=top 20
abbrev d9:Stmt:=top 22
abbrev dk:Stmt:=top 23
abbrev i6:Stmt:=top 24
abbrev ef:Stmt:=top 25
abbrev cP:Stmt:=top 26
abbrev fP:Stmt:=top 29
abbrev gQ:Stmt:=top 30
abbrev kI:Stmt:=top 33
abbrev gR:Stmt:=top 34
abbrev eg:Stmt:=top 35
abbrev fQ:Stmt:=top 36
abbrev dl:Stmt:=top 45
abbrev dm:Stmt:=top 46
abbrev dq:Stmt:=top 47
abbrev l9:Stmt:=top 48
abbrev kJ:Stmt:=top 49
abbrev gS:Stmt:=top 50
abbrev fR:Stmt:=top 51
abbrev eh:Stmt:=top 53
abbrev i7:Stmt:=top 54
abbrev gT:Stmt:=top 55
abbrev i8:Stmt:=top 56
abbrev i9:Stmt:=top 57
abbrev ja:Stmt:=top 58
abbrev jb:Stmt:=top 59
abbrev gU:Stmt:=top 60
abbrev cA:Stmt:=top 61
abbrev ei:Stmt:=top 62
abbrev kK:Stmt:=top 63
abbrev gW:Stmt:=top 64
abbrev fS:Stmt:=top 65
abbrev gX:Stmt:=top 66
abbrev jc:Stmt:=top 67
abbrev fT:Stmt:=top 68
abbrev uY:Stmt:=top 69
abbrev gY:Stmt:=inClass (top 14) 0
abbrev dr:Stmt:=inClass (top 14) 2
abbrev du:Stmt:=inClass (top 14) 4
abbrev gZ:Stmt:=inClass (top 15) 0
abbrev dv:Stmt:=inClass (top 15) 2
abbrev dw:Stmt:=inClass (top 15) 4
abbrev hJ:Stmt:=inClass (top 16) 0
abbrev dy:Stmt:=inClass (top 16) 2
abbrev dz:Stmt:=inClass (top 16) 4
abbrev hV:Stmt:=inClass (top 17) 0
abbrev dA:Stmt:=inClass (top 17) 2
abbrev dB:Stmt:=inClass (top 17) 4
abbrev dC:Stmt:=inClass (top 28) 0
abbrev bC:Stmt:=inClass (top 28) 2
abbrev bD:Stmt:=inClass (top 28) 4
abbrev fU:Stmt:=inClass (top 37) 0
abbrev cg:Stmt:=inClass (top 37) 1
abbrev bV:Stmt:=inClass (top 37) 2
abbrev bt:Stmt:=inClass (top 37) 3
abbrev cB:Stmt:=inClass (top 37) 4
abbrev ci:Stmt:=inClass (top 37) 5
abbrev bW:Stmt:=inClass (top 37) 6
abbrev cj:Stmt:=inClass (top 37) 7
abbrev fV:Stmt:=inClass (top 44) 0
abbrev cC:Stmt:=inClass (top 44) 1
abbrev cE:Stmt:=inClass (top 44) 4
abbrev bJ:Stmt:=inClass (top 44) 5
abbrev cQ:Stmt:=inClass (top 44) 6
abbrev cF:Stmt:=inClass (top 44) 7
def HDef(K:PySem.W.Frag)(x:Str)(st:Stmt):Prop:=∃f fd,DefAt K x st f fd
def aB(K:PySem.W.Frag)(C:Addr)(m q:Str)(st:Stmt):Prop:=∃f fd,MethAt K C m q st f fd
abbrev fldL:List Str:=["fact", "number", "facts", "at"]
abbrev LV:List Str:=["many", "heads", "conds", "headed", "leanings", "helped"]
abbrev MP:List Str:=["pairs", "sure", "unsure", "others"]
abbrev LW:List Str:=["sheet", "sure", "unsure"]
def IK(sp:SpD):Prop:=∀{l:PySem.W.OpenLaw}{w:World}{K:PySem.W.Frag}{h:Heap}{mg:Str->Option Value}{fa cH cL cS cD S Z V:Addr}(X:K.In h) (G:h.Ns mainGlobals mg) (hfa:mg "law" = some (.ref fa))
 (ap:(decide (cH≠cL)&&decide (cH≠cS)&&decide (cH≠cD)&&decide (cL≠cS)&&decide (cL≠cD)&&decide (cS≠cD))=true) (gl:rL K aq lE=true) (bl:Gp K bltL=true)
 (n_44:PySem.W.nsIn K mainGlobals "Have" = some (some (.ref cH))) (k_44:(clsIn K cH fldL&&PySem.W.makesIn K cH&&PySem.W.keepIn K (.ref cH))=true)
 (n_45:PySem.W.nsIn K mainGlobals "Lack" = some (some (.ref cL))) (k_45:(clsIn K cL fldL&&PySem.W.makesIn K cL&&PySem.W.keepIn K (.ref cL))=true)
 (n_46:PySem.W.nsIn K mainGlobals "Some" = some (some (.ref cS))) (k_46:(clsIn K cS fldL&&PySem.W.makesIn K cS&&PySem.W.keepIn K (.ref cS))=true)
 (n_47:PySem.W.nsIn K mainGlobals "Lead" = some (some (.ref cD))) (k_47:(clsIn K cD fldL&&PySem.W.makesIn K cD&&PySem.W.keepIn K (.ref cD))=true)
 (n_48:PySem.W.nsIn K mainGlobals "Sheet" = some (some (.ref S))) (k_48:(clsIn K S LV&&PySem.W.makesIn K S&&PySem.W.keepIn K (.ref S))=true)
 (n_49:PySem.W.nsIn K mainGlobals "Sorting" = some (some (.ref Z))) (k_49:(clsIn K Z MP&&PySem.W.makesIn K Z&&PySem.W.keepIn K (.ref Z))=true)
 (n_50:PySem.W.nsIn K mainGlobals "Grove" = some (some (.ref V))) (k_50:(clsIn K V LW&&PySem.W.makesIn K V&&PySem.W.keepIn K (.ref V))=true)
 (a_0:HDef K "has_fact" i3)
 (a_1:HDef K "count_in" i5)
 (a_2:HDef K "members" kH)
 (a_3:HDef K "set_of" l7)
 (a_4:HDef K "all_carried" d8)
 (a_5:HDef K "carried_heads" cP)
 (a_6:HDef K "helped_rows" ef)
 (a_7:HDef K "all_rows" i6)
 (a_8:HDef K "ranked_among" dk)
 (a_9:HDef K "least_among" d9)
 (a_10:HDef K "next_pair" gQ)
 (a_11:HDef K "to_and_fro" fP)
 (a_12:HDef K "all_facts" gO)
 (a_13:HDef K "is_whole" iZ)
 (a_14:HDef K "is_below" i0)
 (a_15:HDef K "tree_holds" fQ)
 (a_16:HDef K "tree_of" kI)
 (a_17:HDef K "rows_by_help" dq)
 (a_18:HDef K "row_leanings" dl)
 (a_19:HDef K "rows_by_head" dm)
 (a_20:HDef K "made_cond" gP)
 (a_21:HDef K "is_listing" fR)
 (a_22:HDef K "is_number" gS)
 (a_23:HDef K "is_cond" kJ)
 (a_24:HDef K "is_row" l9)
 (a_25:HDef K "_law_plain" gT)
 (a_26:HDef K "_law_same" i8)
 (a_27:HDef K "tree_worlds" eg)
 (a_28:HDef K "worlds_of" gR)
 (a_29:HDef K "_law_facts" gX)
 (a_30:HDef K "_law_carried" ei)
 (a_31:HDef K "_law_met" kK)
 (a_32:HDef K "_law_least" gW)
 (a_33:HDef K "_law_narrow" fS)
 (a_34:HDef K "_law_walked" fT)
 (a_35:HDef K "_law_root" jc)
 (a_36:HDef K "_law_sheet" gU)
 (a_37:HDef K "_law_cell_at" eh)
 (a_38:HDef K "_law_told" jb)
 (a_39:HDef K "_law_draw" i7)
 (a_40:HDef K "_law_cond" i9)
 (a_41:HDef K "_law_rows" ja)
 (a_42:HDef K "_law_with_pairs" cA)
 {f_43:Addr}{d_43:FuncData}(a_43:DefAt K "law" uY f_43 d_43)
 (a_51:aB K cH "__init__" "Have.__init__" gY)
 (a_52:aB K cH "carried" "Have.carried" dr)
 (a_53:aB K cH "leaning" "Have.leaning" du)
 (a_54:aB K cL "__init__" "Lack.__init__" gZ)
 (a_55:aB K cL "carried" "Lack.carried" dv)
 (a_56:aB K cL "leaning" "Lack.leaning" dw)
 (a_57:aB K cS "__init__" "Some.__init__" hJ)
 (a_58:aB K cS "carried" "Some.carried" dy)
 (a_59:aB K cS "leaning" "Some.leaning" dz)
 (a_60:aB K cD "__init__" "Lead.__init__" hV)
 (a_61:aB K cD "carried" "Lead.carried" dA)
 (a_62:aB K cD "leaning" "Lead.leaning" dB)
 (a_63:aB K S "__init__" "Sheet.__init__" fV)
 (a_64:aB K S "how_many" "Sheet.how_many" cC)
 (a_65:aB K S "rows_for" "Sheet.rows_for" cE)
 (a_66:aB K S "rows_helped" "Sheet.rows_helped" bJ)
 (a_67:aB K S "head_of" "Sheet.head_of" cQ)
 (a_68:aB K S "conds_of" "Sheet.conds_of" cF)
 (a_79:aB K Z "__init__" "Sorting.__init__" dC)
 (a_85:aB K Z "true_facts" "Sorting.true_facts" bC)
 (a_87:aB K Z "open_facts" "Sorting.open_facts" bD)
 (a_95:aB K V "__init__" "Grove.__init__" fU)
 (a_104:aB K V "least_against" "Grove.least_against" bt)
 (a_105:aB K V "narrowed" "Grove.narrowed" cB)
 (a_106:aB K V "told_node" "Grove.told_node" ci)
 (a_107:aB K V "root_node" "Grove.root_node" cg)
 (a_108:aB K V "is_one_of" "Grove.is_one_of" cj)
 (a_109:aB K V "node_holds" "Grove.node_holds" bW)
 (a_110:aB K V "root_holds" "Grove.root_holds" bV),
 ∃fd:FuncData,(∀(s:Shared) (v:Value),BindsTo s fd ⟨[v],[]⟩ [("_law_script",v)])/\∀base:Heap,K.In base->base.Ns mainGlobals mg->FnOk l.prog w K mg base CX0 27 fa fd ["_law_script"] (iX K sp)
end K62
section
open PySem PySem.W PyProof.Rows L2 DD
local macro_rules
  | `(tactic| o_head $H:term) => `(tactic| refine holds_open (q := K62.viewQ) (loose := []) (Xt := fun s => xlAt K62.viewQ [] s && recOk [] s) (XP := XL K62.viewQ []) (Yf := Hook.obs $H) (Ya := Hook.val $H) (YP := Hook.says $H) (N := 16100) ?$(Lean.mkIdent `hl) (Hook.of $H) (Hook.keeps $H)
      (fun s e=>xl_of s (Bool.and_eq_true_iff.mp e).1) XL.keeps (by rfl) (by rfl) (by rfl) (fun s e=>recFacts_of (Bool.and_eq_true_iff.mp e).2) (by rfl) (by first | assumption | decide +kernel) (by decide +kernel) ⟨rfl,rfl,rfl,rfl,rfl,by decide +kernel⟩ ?$(Lean.mkIdent `hw) ?$(Lean.mkIdent `hc))
set_option maxRecDepth 100000 in
set_option maxHeartbeats 0 in
theorem K62.over{sp:SpD}(ok:zy 63 sp)(mk:K62.IK sp):PySem.Challenge.rw_notring_k62_a_tree_of_worlds.Holds:=by
 w_on;o_law;k_head
 (case hl=>exact TopT.Mc K62.seen1 K62.seen2 K62.seen3 K62.seen5 K62.seen6 (fun w=>by kernel_rfl))
 (case hw=>w_witness2);k_fill;refine DD.MN (l:=PySem.Challenge.rw_notring_k62_a_tree_of_worlds) (n:=63) (k:=27) (x:="_law_script") rfl (by decide) rfl ⟨rfl,by decide,by decide⟩ ok (fun w h Y=>PySem.W.kIn_of Y) ?noL ?defs
 case noL=>intro w;kernel_rfl
 case defs=>
  intro w mg fa h KX G hmg;refine' mk KX G hmg ?ap ?gl ?bl ?n_44 ?k_44 ?n_45 ?k_45 ?n_46 ?k_46 ?n_47 ?k_47 ?n_48 ?k_48 ?n_49 ?k_49 ?n_50 ?k_50 ⟨_,_,DefAt.mk' ?a_0 ?l_0 ?c_0 ?k_0⟩ ⟨_,_,DefAt.mk' ?a_1 ?l_1 ?c_1 ?k_1⟩ ⟨_,_,DefAt.mk' ?a_2 ?l_2 ?c_2 ?k_2⟩ ⟨_,_,DefAt.mk' ?a_3 ?l_3 ?c_3 ?k_3⟩ ⟨_,_,DefAt.mk' ?a_4 ?l_4 ?c_4 ?k_4⟩ ⟨_,_,DefAt.mk' ?a_5 ?l_5 ?c_5 ?k_5⟩ ⟨_,_,DefAt.mk' ?a_6 ?l_6 ?c_6 ?k_6⟩ ⟨_,_,DefAt.mk' ?a_7 ?l_7 ?c_7 ?k_7⟩ ⟨_,_,DefAt.mk' ?a_8 ?l_8 ?c_8 ?k_8⟩ ⟨_,_,DefAt.mk' ?a_9 ?l_9 ?c_9 ?k_9⟩ ⟨_,_,DefAt.mk' ?a_10 ?l_10 ?c_10 ?k_10⟩ ⟨_,_,DefAt.mk' ?a_11 ?l_11 ?c_11 ?k_11⟩ ⟨_,_,DefAt.mk' ?a_12 ?l_12 ?c_12 ?k_12⟩ ⟨_,_,DefAt.mk' ?a_13 ?l_13 ?c_13 ?k_13⟩ ⟨_,_,DefAt.mk' ?a_14 ?l_14 ?c_14 ?k_14⟩ ⟨_,_,DefAt.mk' ?a_15 ?l_15 ?c_15 ?k_15⟩ ⟨_,_,DefAt.mk' ?a_16 ?l_16 ?c_16 ?k_16⟩ ⟨_,_,DefAt.mk' ?a_17 ?l_17 ?c_17 ?k_17⟩ ⟨_,_,DefAt.mk' ?a_18 ?l_18 ?c_18 ?k_18⟩ ⟨_,_,DefAt.mk' ?a_19 ?l_19 ?c_19 ?k_19⟩ ⟨_,_,DefAt.mk' ?a_20 ?l_20 ?c_20 ?k_20⟩ ⟨_,_,DefAt.mk' ?a_21 ?l_21 ?c_21 ?k_21⟩ ⟨_,_,DefAt.mk' ?a_22 ?l_22 ?c_22 ?k_22⟩ ⟨_,_,DefAt.mk' ?a_23 ?l_23 ?c_23 ?k_23⟩ ⟨_,_,DefAt.mk' ?a_24 ?l_24 ?c_24 ?k_24⟩ ⟨_,_,DefAt.mk' ?a_25 ?l_25 ?c_25 ?k_25⟩ ⟨_,_,DefAt.mk' ?a_26 ?l_26 ?c_26 ?k_26⟩ ⟨_,_,DefAt.mk' ?a_27 ?l_27 ?c_27 ?k_27⟩ ⟨_,_,DefAt.mk' ?a_28 ?l_28 ?c_28 ?k_28⟩ ⟨_,_,DefAt.mk' ?a_29 ?l_29 ?c_29 ?k_29⟩ ⟨_,_,DefAt.mk' ?a_30 ?l_30 ?c_30 ?k_30⟩ ⟨_,_,DefAt.mk' ?a_31 ?l_31 ?c_31 ?k_31⟩ ⟨_,_,DefAt.mk' ?a_32 ?l_32 ?c_32 ?k_32⟩ ⟨_,_,DefAt.mk' ?a_33 ?l_33 ?c_33 ?k_33⟩ ⟨_,_,DefAt.mk' ?a_34 ?l_34 ?c_34 ?k_34⟩ ⟨_,_,DefAt.mk' ?a_35 ?l_35 ?c_35 ?k_35⟩ ⟨_,_,DefAt.mk' ?a_36 ?l_36 ?c_36 ?k_36⟩ ⟨_,_,DefAt.mk' ?a_37 ?l_37 ?c_37 ?k_37⟩ ⟨_,_,DefAt.mk' ?a_38 ?l_38 ?c_38 ?k_38⟩ ⟨_,_,DefAt.mk' ?a_39 ?l_39 ?c_39 ?k_39⟩ ⟨_,_,DefAt.mk' ?a_40 ?l_40 ?c_40 ?k_40⟩ ⟨_,_,DefAt.mk' ?a_41 ?l_41 ?c_41 ?k_41⟩ ⟨_,_,DefAt.mk' ?a_42 ?l_42 ?c_42 ?k_42⟩ (DefAt.mk' ?a_43 ?l_43 ?c_43 ?k_43) ⟨_,_,MethAt.mk' ?a_51 ?l_51 ?n_51 ?c_51 ?k_51⟩ ⟨_,_,MethAt.mk' ?a_52 ?l_52 ?n_52 ?c_52 ?k_52⟩ ⟨_,_,MethAt.mk' ?a_53 ?l_53 ?n_53 ?c_53 ?k_53⟩ ⟨_,_,MethAt.mk' ?a_54 ?l_54 ?n_54 ?c_54 ?k_54⟩ ⟨_,_,MethAt.mk' ?a_55 ?l_55 ?n_55 ?c_55 ?k_55⟩ ⟨_,_,MethAt.mk' ?a_56 ?l_56 ?n_56 ?c_56 ?k_56⟩ ⟨_,_,MethAt.mk' ?a_57 ?l_57 ?n_57 ?c_57 ?k_57⟩ ⟨_,_,MethAt.mk' ?a_58 ?l_58 ?n_58 ?c_58 ?k_58⟩ ⟨_,_,MethAt.mk' ?a_59 ?l_59 ?n_59 ?c_59 ?k_59⟩ ⟨_,_,MethAt.mk' ?a_60 ?l_60 ?n_60 ?c_60 ?k_60⟩ ⟨_,_,MethAt.mk' ?a_61 ?l_61 ?n_61 ?c_61 ?k_61⟩ ⟨_,_,MethAt.mk' ?a_62 ?l_62 ?n_62 ?c_62 ?k_62⟩ ⟨_,_,MethAt.mk' ?a_63 ?l_63 ?n_63 ?c_63 ?k_63⟩ ⟨_,_,MethAt.mk' ?a_64 ?l_64 ?n_64 ?c_64 ?k_64⟩ ⟨_,_,MethAt.mk' ?a_65 ?l_65 ?n_65 ?c_65 ?k_65⟩ ⟨_,_,MethAt.mk' ?a_66 ?l_66 ?n_66 ?c_66 ?k_66⟩ ⟨_,_,MethAt.mk' ?a_67 ?l_67 ?n_67 ?c_67 ?k_67⟩ ⟨_,_,MethAt.mk' ?a_68 ?l_68 ?n_68 ?c_68 ?k_68⟩ ⟨_,_,MethAt.mk' ?a_79 ?l_79 ?n_79 ?c_79 ?k_79⟩ ⟨_,_,MethAt.mk' ?a_85 ?l_85 ?n_85 ?c_85 ?k_85⟩ ⟨_,_,MethAt.mk' ?a_87 ?l_87 ?n_87 ?c_87 ?k_87⟩ ⟨_,_,MethAt.mk' ?a_95 ?l_95 ?n_95 ?c_95 ?k_95⟩ ⟨_,_,MethAt.mk' ?a_104 ?l_104 ?n_104 ?c_104 ?k_104⟩ ⟨_,_,MethAt.mk' ?a_105 ?l_105 ?n_105 ?c_105 ?k_105⟩ ⟨_,_,MethAt.mk' ?a_106 ?l_106 ?n_106 ?c_106 ?k_106⟩ ⟨_,_,MethAt.mk' ?a_107 ?l_107 ?n_107 ?c_107 ?k_107⟩ ⟨_,_,MethAt.mk' ?a_108 ?l_108 ?n_108 ?c_108 ?k_108⟩ ⟨_,_,MethAt.mk' ?a_109 ?l_109 ?n_109 ?c_109 ?k_109⟩ ⟨_,_,MethAt.mk' ?a_110 ?l_110 ?n_110 ?c_110 ?k_110⟩
  case n_44 | n_45 | n_46 | n_47 | n_48 | n_49 | n_50 | a_0 | l_0 | c_0 | k_0 | a_1 | l_1 | c_1 | k_1 | a_2 | l_2 | c_2 | k_2 | a_3 | l_3 | c_3 | k_3 | a_4 | l_4 | c_4 | k_4 | a_5 | l_5 | c_5 | k_5 | a_6 | l_6 | c_6 | k_6 | a_7 | l_7 | c_7 | k_7 | a_8 | l_8 | c_8 | k_8 | a_9 | l_9 | c_9 | k_9 | a_10 | l_10 | c_10 | k_10 | a_11 | l_11 | c_11 | k_11 | a_12 | l_12 | c_12 | k_12 | a_13 | l_13 | c_13 | k_13 | a_14 | l_14 | c_14 | k_14 | a_15 | l_15 | c_15 | k_15 | a_16 | l_16 | c_16 | k_16 | a_17 | l_17 | c_17 | k_17 | a_18 | l_18 | c_18 | k_18 | a_19 | l_19 | c_19 | k_19 | a_20 | l_20 | c_20 | k_20 | a_21 | l_21 | c_21 | k_21 | a_22 | l_22 | c_22 | k_22 | a_23 | l_23 | c_23 | k_23 | a_24 | l_24 | c_24 | k_24 | a_25 | l_25 | c_25 | k_25 | a_26 | l_26 | c_26 | k_26 | a_27 | l_27 | c_27 | k_27 | a_28 | l_28 | c_28 | k_28 | a_29 | l_29 | c_29 | k_29 | a_30 | l_30 | c_30 | k_30 | a_31 | l_31 | c_31 | k_31 | a_32 | l_32 | c_32 | k_32 | a_33 | l_33 | c_33 | k_33 | a_34 | l_34 | c_34 | k_34 | a_35 | l_35 | c_35 | k_35 | a_36 | l_36 | c_36 | k_36 | a_37 | l_37 | c_37 | k_37 | a_38 | l_38 | c_38 | k_38 | a_39 | l_39 | c_39 | k_39 | a_40 | l_40 | c_40 | k_40 | a_41 | l_41 | c_41 | k_41 | a_42 | l_42 | c_42 | k_42 | a_43 | l_43 | c_43 | k_43 | a_51 | l_51 | n_51 | c_51 | k_51 | a_52 | l_52 | n_52 | c_52 | k_52 | a_53 | l_53 | n_53 | c_53 | k_53 | a_54 | l_54 | n_54 | c_54 | k_54 | a_55 | l_55 | n_55 | c_55 | k_55 | a_56 | l_56 | n_56 | c_56 | k_56 | a_57 | l_57 | n_57 | c_57 | k_57 | a_58 | l_58 | n_58 | c_58 | k_58 | a_59 | l_59 | n_59 | c_59 | k_59 | a_60 | l_60 | n_60 | c_60 | k_60 | a_61 | l_61 | n_61 | c_61 | k_61 | a_62 | l_62 | n_62 | c_62 | k_62 | a_63 | l_63 | n_63 | c_63 | k_63 | a_64 | l_64 | n_64 | c_64 | k_64 | a_65 | l_65 | n_65 | c_65 | k_65 | a_66 | l_66 | n_66 | c_66 | k_66 | a_67 | l_67 | n_67 | c_67 | k_67 | a_68 | l_68 | n_68 | c_68 | k_68 | a_79 | l_79 | n_79 | c_79 | k_79 | a_85 | l_85 | n_85 | c_85 | k_85 | a_87 | l_87 | n_87 | c_87 | k_87 | a_95 | l_95 | n_95 | c_95 | k_95 | a_104 | l_104 | n_104 | c_104 | k_104 | a_105 | l_105 | n_105 | c_105 | k_105 | a_106 | l_106 | n_106 | c_106 | k_106 | a_107 | l_107 | n_107 | c_107 | k_107 | a_108 | l_108 | n_108 | c_108 | k_108 | a_109 | l_109 | n_109 | c_109 | k_109 | a_110 | l_110 | n_110 | c_110 | k_110=>k_is
  case ap | gl | bl | k_44 | k_45 | k_46 | k_47 | k_48 | k_49 | k_50=>kernel_rfl
end
open PySem L2 DD
local macro_rules
  | `(tactic| simp! only [$ts,*]) => `(tactic| simp only [wSs, wS, wE, wEs, wEo, wTo, wT, wI, wP, wSeq, uw, wIfS, Ek, wTru, wOp, wAnd, wOr, wNot, El, wOrV, Em, wIf, wRet, wSet, wAsg, Ep, ij, wMt, wSl, wLst, wTup, wNil, En, wNeg, wFor, Er, Et, EL, Ew, Ex, z5, wFld, EC, uL, ML, getS, rh, truD, intD, optD, uz, setM, dBin, dCmp, dIB, dI, dI0, dMul, dAdd, dBi, dLen, rq, dAll, dII, dInt, uF, uG, dMt, mtRc, EA, rB, rC, dIx, dSl, dPut, dEqV, dNeV, dIsV, xa, dInV, w4, dInP, dEq, zu, isW, Ey, isBl, isB, seqD, fldD, EB, zw, keyD, xb, lstD, rD, dBj, wLrg, rngD, dPop, LM, aU, aM, List.getElem?_cons_zero, List.getElem?_cons_succ, $ts,*])
local macro_rules
  | `(tactic| ac_rfl) => `(tactic| exact ⟨rfl,rfl,rfl,by decide +kernel,rfl,by decide +kernel,by decide +kernel⟩)
namespace SH
open PySem L2 DD
abbrev fin(Q:DK):EndsD:={ nx:=fun _ M'=>Q .non M',rt:=Q }
def Ext(M M':MH):Prop:=∀a o,M a=some o->M' a=some o
theorem Ext.refl(M:MH):Ext M M:=fun _ _ h=>h
theorem Ext.trans{M M' M'':MH}(a:Ext M M')(b:Ext M' M''):Ext M M'':=fun c o h=>b c o (a c o h)
theorem Ext.new{M:MH}{p:Addr}{o:MO}(h:M p=none):Ext M (updM M p o):=fun a u e=>by
 rw[aH (fun z=>by subst z;rw[h] at e;cases e)];exact e
theorem Ext.then{M M':MH}{p:Addr}{o:MO}(e:Ext M M')(h:M' p=none):Ext M (updM M' p o):=e.trans (Ext.new h)
def ExtBut(p:Addr)(M M':MH):Prop:=∀a o,a≠p->M a=some o->M' a=some o
end SH
namespace SH
open PySem L2 DD
theorem fW{g:MH->Prop}{t:Tgt}{c:WT}{e:WE}{F:List D->MH->Prop}{f:D->D}{ok:DS->Prop}{M:MH}:∀{xs:List D}(acc:List D) (σ:DS),ok σ ->
  (∀x∈xs,∀σ acc rest,ok σ->(∀σ',ok σ'->aQ g t c e F rest (acc++[f x]) σ' M)->aQ g t c e F (x::rest) acc σ M)->F (acc++xs.map f) M->aQ g t c e F xs acc σ M
 |[],acc,σ,_,_,q=>by
  rw[List.map_nil,List.append_nil] at q;exact q
 |x::xs,acc,σ,h,st,q=>st x List.mem_cons_self σ acc xs h fun σ' h'=>fW (acc++[f x]) σ' h' (fun y hy=>st y (.tail _ hy)) (by simpa using q)
theorem c5{g:MH->Prop}{t:Tgt}{c:WT}{e:WE}{F:List D->MH->Prop}{p:D->Bool}{ok:DS->Prop}{M:MH}:∀{xs:List D}(acc:List D) (σ:DS),ok σ ->
  (∀x∈xs,∀σ acc rest,ok σ->(∀σ',ok σ'->aQ g t c e F rest (acc++cond (p x) [x] []) σ' M)->aQ g t c e F (x::rest) acc σ M)->F (acc++xs.filter p) M->aQ g t c e F xs acc σ M
 |[],acc,σ,_,_,q=>by
  rw[List.filter_nil,List.append_nil] at q;exact q
 |x::xs,acc,σ,h,st,q=>st x List.mem_cons_self σ acc xs h fun σ' h'=>c5 (acc++cond (p x) [x] []) σ' h' (fun y hy=>st y (.tail _ hy)) (by
  rw[List.filter_cons] at q;cases e:p x with
  |true=>rw[e] at q;simpa using q
  |false=>rw[e] at q;simpa using q)
theorem at0{α:Type}(x:α)(xs:List α):atI (x::xs) 0=some x:=gn (j:=0) rfl
theorem at1{α:Type}(x y:α)(xs:List α):atI (x::y::xs) 1=some y:=gn (j:=1) rfl
theorem at2{α:Type}(x y z:α)(xs:List α):atI (x::y::z::xs) 2=some z:=gn (j:=2) rfl
theorem aj(x:Str):aP (.str x)=true:=rfl
theorem ak(x:Int):aP (.int x)=true:=rfl
theorem au(x:Bool):aP (.bl x)=true:=rfl
theorem al(x:Str):depD (.str x)=0:=rfl
theorem ai(x:Int):depD (.int x)=0:=rfl
theorem av(x:Bool):depD (.bl x)=0:=rfl
theorem ah(x y:Int):eqD (.int x) (.int y)=(x==y):=by rw[eqD]
theorem am(x y:Str):eqD (.str x) (.str y)=(x==y):=by rw[eqD]
def bitZ(h f:Int):Int:=h / 2 ^ f.toNat%2
theorem Kf(h f:Int):bitZ h f=0\/bitZ h f=1:=by unfold bitZ;omega
def hasB(h f:Int):Bool:=bitZ h f==1
theorem Ag(h f:Int):(bitZ h f==0) = !hasB h f:=by
 unfold hasB;rcases Kf h f with e | e<;>rw[e]<;>rfl
def intL(fs:List Int):List D:=fs.map .int
def bits(h:Int)(fs:List Int):List D:=fs.map fun f=>.int (bitZ h f)
def cntB(fs:List Int)(h:Int):Nat:=(fs.filter (hasB h)).length
theorem qm:∀(fs:List Int),aW (intL fs)=true
 |[]=>rfl
 |f::fs=>by
  show(aP (.int f)&&aW (intL fs))=true;rw[qm fs];rfl
theorem tT:∀(fs:List Int),bQ (intL fs)=0
 |[]=>rfl
 |f::fs=>by
  show bQ (.int f::intL fs)=0;rw[bQ,tT fs];rfl
theorem xc{fs:List Int}{k:Nat}(h:k<fs.length):atI (intL fs) (k:Int)=some (.int (fs.getD k 0)):=by
 refine gn ?_;unfold intL;rw[List.getElem?_map,List.getElem?_eq_getElem h];simp[List.getD,List.getElem?_eq_getElem h]
theorem cutK{α:Type}(xs:List α)(k:Nat):cutL xs none (some (k:Int))=xs.take k:=by
 unfold cutL;rw[HT.wR,HT.G9];simp
theorem rM(fs:List Int)(k:Nat):cutL (intL fs) none (some (k:Int))=intL (fs.take k):=by rw[cutK];unfold intL;rw[List.map_take]
theorem tU(fs:List Int):(intL fs).length=fs.length:=by unfold intL;rw[List.length_map]
inductive CT where
 |hav (f:Int) | lck (f:Int) | som (n:Int) (fs:List Int) | led (fs:List Int) (k:Nat)
def CT.ok:CT->Prop
 |.hav f=>0<=f/\f<120
 |.lck f=>0<=f/\f<120
 |.som _ fs=>(0<fs.length/\fs.length<=6)/\∀f∈fs,0<=f/\f<120
 |.led fs k=>(k<fs.length/\fs.length<=6)/\∀f∈fs,0<=f/\f<120
def CT.told:CT->D
 |.hav f=>.tup [.str "have",.int f]
 |.lck f=>.tup [.str "lack",.int f]
 |.som n fs=>.tup [.str "some",.int n,.tup (intL fs)]
 |.led fs k=>.tup [.str "lead",.tup (intL fs),.int k]
def CT.flds:CT->List (Str×D)
 |.hav f=>[("fact",.int f)]
 |.lck f=>[("fact",.int f)]
 |.som n fs=>[("number",.int n),("facts",.tup (intL fs))]
 |.led fs k=>[("facts",.tup (intL fs)),("at",.int k)]
def CT.kind:CT->Nat
 |.hav _=>0
 |.lck _=>1
 |.som _ _=>2
 |.led _ _=>3
def CT.carried(h m:Int):CT->Bool
 |.hav f=>hasB h f
 |.lck f=>!hasB m f
 |.som n fs=>decide (n<=((cntB fs h:Nat):Int))
 |.led fs k=>hasB h (fs.getD k 0)&&(((cntB (fs.take k) m:Nat):Int)==0)
def cr(b:Bool)(f:Int):D:=.tup [.int f,.bl b]
def CT.leans:CT->List D
 |.hav f=>[cr false f]
 |.lck f=>[cr true f]
 |.som _ fs=>fs.map (cr false)
 |.led fs k=>(fs.take k).map (cr true)++[cr false (fs.getD k 0)]
structure CA where
 h:Addr
 l:Addr
 s:Addr
 d:Addr
def CA.at(c:CA):Nat->Addr
 |0=>c.h
 |1=>c.l
 |2=>c.s
 |_=>c.d
def CT.obj(c:CA)(t:CT):MO:=.ins (c.at t.kind) t.flds
theorem CT.kind_lt(t:CT):t.kind<4:=by
 cases t with
 |hav _=>exact(by decide:(0:Nat)<4)
 |lck _=>exact(by decide:(1:Nat)<4)
 |som _ _=>exact(by decide:(2:Nat)<4)
 |led _ _=>exact(by decide:(3:Nat)<4)
theorem DU{fs:List Int}{k:Nat}(h:k<fs.length)(hf:∀f∈fs,0<=f/\f<120):0<=fs.getD k 0:=by
 have:fs.getD k 0=fs[k]:=by simp[List.getD,List.getElem?_eq_getElem h]
 rw[this];exact(hf _ (List.getElem_mem h)).1
def da:SpD:=fun ds M Q=>∃h f:Int,ds=[.int h,.int f]/\0<=f/\Q (.bl (hasB h f)) M
def lR:SpD:=fun ds M Q=>∃(fs:List Int) (h:Int),ds=[.tup (intL fs),.int h]/\(∀f∈fs,0<=f)/\∀M',Ext M M'->Q (.int (cntB fs h:Nat)) M'
def bH(c:CA)(k:Nat):SpD:=fun ds M Q=>∃(a:Addr) (t:CT) (h m:Int),t.kind=k/\t.ok/\ds=[.ref a,.int h,.int m]/\M a=some (t.obj c)/\∀M',Ext M M'->Q (.bl (t.carried h m)) M'
def bI(c:CA)(k:Nat):SpD:=fun ds M Q=>∃(a:Addr) (t:CT),t.kind=k/\t.ok/\ds=[.ref a]/\M a=some (t.obj c)/\∀p M',M p=none->Ext M M'->M' p=some (.lst t.leans)->Q (.ref p) M'
def bX(c:CA)(k:Nat):SpD:=fun ds M Q=>∃(a:Addr) (t:CT),t.kind=k/\ds=.ref a::t.flds.map (·.2)/\M a=some (.ins (c.at k) [])/\∀M',(∀b,b≠a->M' b=M b)->M' a=some (t.obj c)->Q .non M'
def kindAt(c:CA)(a:Addr):Option Nat:=if a=c.h then some 0 else if a=c.l then some 1 else if a=c.s then some 2 else if a=c.d then some 3 else none
def CA.apart(c:CA):Prop:=∀k,k<4->kindAt c (c.at k)=some k
def iF:List Str:=["fact", "number", "facts", "at"]
def fldO(c:CA):OK0:=fun a f=>∃k,k<4/\a=c.at k/\f∈iF
theorem bp(c:CA){k:Nat}{f:Str}(hk:k<4)(h:f∈iF):fldO c (c.at k) f:=⟨k,hk,rfl,h⟩
def j7:Ss:=.cons (.ret (.cmp .Eq (.bin .BitAnd (.bin .RShift (.var 0) (.var 1)) (.int 1)) (.int 1))) .nil
def j8:Ss:=.cons (.ret (.bi .len (.cons (.comp 1 (.var 2) (.nm 2) (.seq (.var 0)) (.yes (.val (.fn 0 (.cons (.var 1) (.cons (.var 2) .nil)))))) .nil))) .nil
section
variable {cn : Cn}
theorem Ce{ds:List D}{M:MH}{Q:DK}(h:da ds M Q):wSs cn j7 (fin Q) (ag ["", ""] ds) M:=by
 obtain⟨x,f,rfl,hf,q⟩:=h;show wSs cn j7 (fin Q) [some (.int x),some (.int f)] M;unfold j7;simp! only[];refine⟨hf,⟨rfl,rfl,(by decide:(0:Nat)<=30)⟩,?_⟩;rw[PyProof.Rows.bitAnd_m1];exact q
theorem Cf{ds:List D}{M:MH}{Q:DK}(f0:cn.F.getD 0 (fun _ _ _=>False)=da)(h:lR ds M Q):wSs cn j8 (fin Q) (ag ["", ""] ds) M:=by
 obtain⟨fs,x,rfl,hf,q⟩:=h;show wSs cn j8 (fin Q) [some (.tup (intL fs)),some (.int x)] M;unfold j8;simp! only[f0];refine c5 (p:=fun d=>match d with | .int f=>hasB x f | _=>false) (ok:=fun σ=>∃v,σ=[some (.tup (intL fs)),some (.int x),v]) [] _ ⟨none,rfl⟩ ?_ ?_
 ·intro d hd σ acc rest ⟨v,hv⟩ k
  subst hv;obtain⟨f,hfm,rfl⟩:=List.mem_map.1 hd;refine⟨x,f,rfl,hf f hfm,?_⟩;have k1:=k _ ⟨some (.int f),rfl⟩;show Bif (hasB x f) _ _;dsimp only at k1;cases hb:hasB x f with
  |true=>rw[hb] at k1;exact⟨trivial,k1⟩
  |false=>rw[hb] at k1;exact⟨trivial,by simpa using k1⟩
 ·intro p hp
  rw[ab];have e:([]++(intL fs).filter (fun(d:D)=>match d with | .int f=>hasB x f | _=>false)).length=cntB fs x:=by
   unfold intL cntB;rw[List.nil_append,List.filter_map,List.length_map];rfl
  dsimp only;rw[e];exact q _ (Ext.new hp)
end
end SH
local macro_rules
  | `(tactic| simp_all! only [$ts,*]) => `(tactic| simp! only [SH.aj,SH.ak,SH.au,SH.al,SH.ai,SH.av,SH.ah,SH.am,Nat.zero_le,and_self,true_and,and_true,$ts,*])
namespace SH
open PySem L2 DD
theorem rN(x:D):List.lookup ("fact" : Str) [("fact",x)]=some x:=rfl
theorem yi(x y:D):List.lookup ("number" : Str) [("number",x),("facts",y)]=some x:=rfl
theorem Ah(x y:D):List.lookup ("facts" : Str) [("number",x),("facts",y)]=some y:=rfl
theorem mE(x y:D):List.lookup ("facts" : Str) [("facts",x),("at",y)]=some x:=rfl
theorem zz(x y:D):List.lookup ("at" : Str) [("facts",x),("at",y)]=some y:=rfl
theorem lS:("fact" : Str)∈iF:=by decide +kernel
theorem yj:("number" : Str)∈iF:=by decide +kernel
theorem fX:("facts" : Str)∈iF:=by decide +kernel
theorem uZ:("at" : Str)∈iF:=by decide +kernel
def dD:Ss:=.cons (.setF (.var 0) "fact" (.var 1)) .nil
def eR:Ss:=.cons (.ret (.fn 0 (.cons (.var 1) (.cons (.fld (.var 0) "fact") .nil)))) .nil
def eU:Ss:=.cons (.ret (.not (.fn 0 (.cons (.var 2) (.cons (.fld (.var 0) "fact") .nil))))) .nil
def eV:Ss:=.cons (.ret (.lst (.cons (.tup (.cons (.fld (.var 0) "fact") (.cons (.bl false) .nil))) .nil))) .nil
def eY:Ss:=.cons (.ret (.lst (.cons (.tup (.cons (.fld (.var 0) "fact") (.cons (.bl true) .nil))) .nil))) .nil
def nv:Ss:=.cons (.setF (.var 0) "facts" (.var 2)) .nil
def jd:Ss:=.cons (.setF (.var 0) "number" (.var 1)) nv
def eZ:Ss:=.cons (.ret (.cmp .GtE (.fn 0 (.cons (.fld (.var 0) "facts") (.cons (.var 1) .nil))) (.fld (.var 0) "number"))) .nil
def fb:Ss:=.cons (.ret (.comp 1 (.tup (.cons (.var 1) (.cons (.bl false) .nil))) (.nm 1) (.seq (.fld (.var 0) "facts")) .no)) .nil
def nw:Ss:=.cons (.setF (.var 0) "at" (.var 2)) .nil
def je:Ss:=.cons (.setF (.var 0) "facts" (.var 1)) nw
def fg:Ss:=.cons (.ret (.and (.fn 0 (.cons (.var 1) (.cons (.ix (.fld (.var 0) "facts") (.fld (.var 0) "at")) .nil))) (.cmp .Eq (.fn 1 (.cons (.sl (.fld (.var 0) "facts") .no (.yes (.fld (.var 0) "at"))) (.cons (.var 2) .nil))) (.int 0)))) .nil
def fh:Ss:=.cons (.ret (.bin .Add (.comp 1 (.tup (.cons (.var 1) (.cons (.bl true) .nil))) (.nm 1) (.seq (.sl (.fld (.var 0) "facts") .no (.yes (.fld (.var 0) "at")))) .no) (.lst (.cons (.tup (.cons (.ix (.fld (.var 0) "facts") (.fld (.var 0) "at")) (.cons (.bl false) .nil))) .nil)))) .nil
section
variable {cn : Cn} {c : CA} {ds : List D} {M : MH} {Q : DK}
theorem Ai(hO:cn.O=fldO c)(h:bX c 0 ds M Q):wSs cn dD (fin Q) (ag ["", ""] ds) M:=by
 obtain⟨a,t,hk,rfl,hM,q⟩:=h;cases t with
 |hav f=>
  show wSs cn dD (fin Q) [some (.ref a),some (.int f)] M;unfold dD;simp! only[hM,hO];exact⟨⟨bp c (by decide) lS,by decide⟩,q _ (fun b hb=>aH hb) ab⟩
 |lck f=>cases hk
 |som n fs=>cases hk
 |led fs k=>cases hk
theorem Aj(hO:cn.O=fldO c)(h:bX c 1 ds M Q):wSs cn dD (fin Q) (ag ["", ""] ds) M:=by
 obtain⟨a,t,hk,rfl,hM,q⟩:=h;cases t with
 |lck f=>
  show wSs cn dD (fin Q) [some (.ref a),some (.int f)] M;unfold dD;simp! only[hM,hO];exact⟨⟨bp c (by decide) lS,by decide⟩,q _ (fun b hb=>aH hb) ab⟩
 |hav f=>cases hk
 |som n fs=>cases hk
 |led fs k=>cases hk
theorem Ak(hO:cn.O=fldO c)(h:bX c 2 ds M Q):wSs cn jd (fin Q) (ag ["", "", ""] ds) M:=by
 obtain⟨a,t,hk,rfl,hM,q⟩:=h;cases t with
 |som n fs=>
  show wSs cn jd (fin Q) [some (.ref a),some (.int n),some (.tup (intL fs))] M;unfold jd;simp! only[hM,hO];refine⟨⟨bp c (by decide) yj,by decide⟩,?_⟩;unfold nv;simp! only[ab,hO];exact⟨⟨bp c (by decide) fX,(show(1:Nat)<1000 by decide)⟩,q _ (fun b hb=>by rw[aH hb,aH hb]) ab⟩
 |hav f=>cases hk
 |lck f=>cases hk
 |led fs k=>cases hk
theorem Al(hO:cn.O=fldO c)(h:bX c 3 ds M Q):wSs cn je (fin Q) (ag ["", "", ""] ds) M:=by
 obtain⟨a,t,hk,rfl,hM,q⟩:=h;cases t with
 |led fs k=>
  show wSs cn je (fin Q) [some (.ref a),some (.tup (intL fs)),some (.int k)] M;unfold je;simp! only[hM,hO];refine⟨⟨bp c (by decide) fX,by decide⟩,?_⟩;unfold nw;simp! only[ab,hO];exact⟨⟨bp c (by decide) uZ,(show(1:Nat)<1000 by decide)⟩,q _ (fun b hb=>by rw[aH hb,aH hb]) ab⟩
 |hav f=>cases hk
 |lck f=>cases hk
 |som n fs=>cases hk
theorem u1(hO:cn.O=fldO c)(f0:cn.F.getD 0 (fun _ _ _=>False)=da)(h:bH c 0 ds M Q):wSs cn eR (fin Q) (ag ["", "", ""] ds) M:=by
 obtain⟨a,t,h,m,hk,ho,rfl,hM,q⟩:=h;cases t with
 |hav f=>
  have hM:M a=some (.ins (c.at 0) [("fact",.int f)]):=hM;show wSs cn eR (fin Q) [some (.ref a),some (.int h),some (.int m)] M;unfold eR;simp! only[hM,hO,rN,f0];exact⟨bp c (by decide) lS,h,f,rfl,ho.1,q M (Ext.refl M)⟩
 |lck f=>cases hk
 |som n fs=>cases hk
 |led fs k=>cases hk
theorem u2(hO:cn.O=fldO c)(f0:cn.F.getD 0 (fun _ _ _=>False)=da)(h:bH c 1 ds M Q):wSs cn eU (fin Q) (ag ["", "", ""] ds) M:=by
 obtain⟨a,t,h,m,hk,ho,rfl,hM,q⟩:=h;cases t with
 |lck f=>
  have hM:M a=some (.ins (c.at 1) [("fact",.int f)]):=hM;show wSs cn eU (fin Q) [some (.ref a),some (.int h),some (.int m)] M;unfold eU;simp! only[hM,hO,rN,f0];exact⟨bp c (by decide) lS,m,f,rfl,ho.1,q M (Ext.refl M)⟩
 |hav f=>cases hk
 |som n fs=>cases hk
 |led fs k=>cases hk
theorem u3(hO:cn.O=fldO c)(f0:cn.F.getD 0 (fun _ _ _=>False)=lR)(h:bH c 2 ds M Q):wSs cn eZ (fin Q) (ag ["", "", ""] ds) M:=by
 obtain⟨a,t,h,m,hk,ho,rfl,hM,q⟩:=h;cases t with
 |som n fs=>
  have hM:M a=some (.ins (c.at 2) [("number",.int n),("facts",.tup (intL fs))]):=hM;show wSs cn eZ (fin Q) [some (.ref a),some (.int h),some (.int m)] M;unfold eZ;simp! only[hM,hO,yi,Ah,f0];refine⟨bp c (by decide) fX,fs,h,rfl,fun f hf=>(ho.2 f hf).1,fun M1 e1=>?_⟩;simp only[e1 a _ hM,yi];exact⟨bp c (by decide) yj,q M1 e1⟩
 |hav f=>cases hk
 |lck f=>cases hk
 |led fs k=>cases hk
theorem u4(hO:cn.O=fldO c)(f0:cn.F.getD 0 (fun _ _ _=>False)=da)(f1:cn.F.getD 1 (fun _ _ _=>False)=lR)(h:bH c 3 ds M Q):wSs cn fg (fin Q) (ag ["", "", ""] ds) M:=by
 obtain⟨a,t,h,m,hk,ho,rfl,hM,q⟩:=h;cases t with
 |led fs k=>
  have hM:M a=some (.ins (c.at 3) [("facts",.tup (intL fs)),("at",.int k)]):=hM;show wSs cn fg (fin Q) [some (.ref a),some (.int h),some (.int m)] M;unfold fg;simp! only[hM,hO,mE,zz,f0,f1,xc ho.1.1,rM];refine⟨bp c (by decide) fX,bp c (by decide) uZ,h,fs.getD k 0,rfl,DU ho.1.1 ho.2,?_⟩;have q:∀M',Ext M M'->Q (.bl (hasB h (fs.getD k 0)&&(((cntB (fs.take k) m:Nat):Int)==0))) M':=q;cases hb:hasB h (fs.getD k 0) with
  |false=>rw[hb,Bool.false_and] at q;exact q M (Ext.refl M)
  |true=>
   rw[hb,Bool.true_and] at q;simp only[aU,hM,mE,zz,rM];refine⟨bp c (by decide) fX,bp c (by decide) uZ,fs.take k,m,rfl,fun f hf=>(ho.2 f (List.mem_of_mem_take hf)).1,fun M1 e1=>⟨⟨rfl,rfl,(by decide:(0:Nat)<=30)⟩,?_⟩⟩;rw[ah];exact q M1 e1
 |hav f=>cases hk
 |lck f=>cases hk
 |som n fs=>cases hk
theorem u5(hO:cn.O=fldO c)(h:bI c 0 ds M Q):wSs cn eV (fin Q) (ag [""] ds) M:=by
 obtain⟨a,t,hk,ho,rfl,hM,q⟩:=h;cases t with
 |hav f=>
  have hM:M a=some (.ins (c.at 0) [("fact",.int f)]):=hM;show wSs cn eV (fin Q) [some (.ref a)] M;unfold eV;simp! only[hM,hO,rN];exact⟨bp c (by decide) lS,fun p hp=>q p _ hp (Ext.new hp) ab⟩
 |lck f=>cases hk
 |som n fs=>cases hk
 |led fs k=>cases hk
theorem u6(hO:cn.O=fldO c)(h:bI c 1 ds M Q):wSs cn eY (fin Q) (ag [""] ds) M:=by
 obtain⟨a,t,hk,ho,rfl,hM,q⟩:=h;cases t with
 |lck f=>
  have hM:M a=some (.ins (c.at 1) [("fact",.int f)]):=hM;show wSs cn eY (fin Q) [some (.ref a)] M;unfold eY;simp! only[hM,hO,rN];exact⟨bp c (by decide) lS,fun p hp=>q p _ hp (Ext.new hp) ab⟩
 |hav f=>cases hk
 |som n fs=>cases hk
 |led fs k=>cases hk
def Am(b:Bool):D->D
 |.int f=>cr b f
 |d=>d
theorem An(b:Bool)(fs:List Int):(intL fs).map (Am b)=fs.map (cr b):=by
 unfold intL;rw[List.map_map];rfl
theorem u7(hO:cn.O=fldO c)(h:bI c 2 ds M Q):wSs cn fb (fin Q) (ag [""] ds) M:=by
 obtain⟨a,t,hk,ho,rfl,hM,q⟩:=h;cases t with
 |som n fs=>
  have hM:M a=some (.ins (c.at 2) [("number",.int n),("facts",.tup (intL fs))]):=hM;show wSs cn fb (fin Q) [some (.ref a)] M;unfold fb;simp! only[hM,hO,Ah];refine⟨bp c (by decide) fX,?_⟩;refine fW (f:=Am false) (ok:=fun σ=>∃v,σ=[some (.ref a),v]) [] _ ⟨none,rfl⟩ ?_ ?_
  ·intro d hd σ acc rest ⟨v,hv⟩ k
   subst hv;obtain⟨f,hfm,rfl⟩:=List.mem_map.1 hd;exact⟨trivial,k _ ⟨_,rfl⟩⟩
  ·intro p hp
   rw[List.nil_append,An];exact q p _ hp (Ext.new hp) ab
 |hav f=>cases hk
 |lck f=>cases hk
 |led fs k=>cases hk
theorem u8(hO:cn.O=fldO c)(h:bI c 3 ds M Q):wSs cn fh (fin Q) (ag [""] ds) M:=by
 obtain⟨a,t,hk,ho,rfl,hM,q⟩:=h;cases t with
 |led fs k=>
  have hM:M a=some (.ins (c.at 3) [("facts",.tup (intL fs)),("at",.int k)]):=hM;show wSs cn fh (fin Q) [some (.ref a)] M;unfold fh;simp! only[hM,hO,mE,zz,rM];refine⟨bp c (by decide) fX,bp c (by decide) uZ,?_⟩;refine fW (f:=Am true) (ok:=fun σ=>∃v,σ=[some (.ref a),v]) [] _ ⟨none,rfl⟩ ?_ ?_
  ·intro d hd σ acc rest ⟨v,hv⟩ k
   subst hv;obtain⟨f,hfm,rfl⟩:=List.mem_map.1 hd;exact⟨trivial,k _ ⟨_,rfl⟩⟩
  ·intro p hp
   rw[List.nil_append,An];have e1:=Ext.new (o:=MO.lst ((fs.take k).map (cr true))) hp;have h1:=e1 a _ hM;have hpp:updM M p (MO.lst ((fs.take k).map (cr true))) p=some (.lst ((fs.take k).map (cr true))):=ab;generalize updM M p (MO.lst ((fs.take k).map (cr true)))=M1 at *;simp only[h1,mE,zz,xc ho.1.1];refine⟨bp c (by decide) fX,bp c (by decide) uZ,fun p2 hp2=>?_⟩;have e2:=Ext.new (o:=MO.lst [D.tup [D.int (fs.getD k 0),D.bl false]]) hp2;have h2:=e2 p _ hpp;have hp22:updM M1 p2 (MO.lst [D.tup [D.int (fs.getD k 0),D.bl false]]) p2=some (.lst [D.tup [D.int (fs.getD k 0),D.bl false]]):=ab;generalize updM M1 p2 (MO.lst [D.tup [D.int (fs.getD k 0),D.bl false]])=M2 at *;simp only[h2,hp22];refine⟨?_,fun p3 hp3=>q p3 _ ?_ ((e1.trans e2).then hp3) ab⟩
   ·have:((fs.take k).map (cr true)).length<=6:=by rw[List.length_map];exact Nat.le_trans (List.length_take_le' _ _) ho.1.2
    have h6:(7:Nat)<=sizeLine:=by decide
    simp only[List.length_cons,List.length_nil];omega
   ·cases e:M p3 with
    |none=>rfl
    |some o=>have:=(e1.trans e2) p3 o e;rw[hp3] at this;cases this
 |hav f=>cases hk
 |lck f=>cases hk
 |som n fs=>cases hk
end
end SH
namespace SH
open PySem L2 DD
theorem Ext.free{M M':MH}{p:Addr}(e:Ext M M')(h:M' p=none):M p=none:=by
 cases q:M p with
 |none=>rfl
 |some o=>have:=e p o q;rw[h] at this;cases this
theorem Ext.put{M M':MH}{p:Addr}{o:MO}(e:Ext M M')(h:M p=none):Ext M (updM M' p o):=fun a u q=>by
 have:a≠p:=fun z=>by subst z;rw[h] at q;cases q
 rw[aH this];exact e a u q
theorem u9{M M':MH}{x:Addr}{o:MO}(hx:M x=none)(h:∀b,b≠x->M' b=updM M x o b):Ext M M':=fun b u e=>by
 have:b≠x:=fun z=>by subst z;rw[hx] at e;cases e
 rw[h b this,aH this];exact e
theorem bK{M:MH}{a p:Addr}{o:MO}(h:M a=some o)(hp:M p=none):a≠p:=fun z=>by subst z;rw[hp] at h;cases h
theorem ExtBut.refl(p:Addr)(M:MH):ExtBut p M M:=fun _ _ _ h=>h
theorem ExtBut.trans{p:Addr}{M M' M'':MH}(a:ExtBut p M M')(b:ExtBut p M' M''):ExtBut p M M'':=fun c o n h=>b c o n (a c o n h)
theorem Ext.but{p:Addr}{M M':MH}(a:Ext M M'):ExtBut p M M':=fun c o _ h=>a c o h
theorem ExtBut.upd(p:Addr)(M:MH)(o:MO):ExtBut p M (updM M p o):=fun c u n h=>by rw[aH n];exact h
theorem ExtBut.ext{p:Addr}{M M1 M2:MH}(a:Ext M M1)(b:ExtBut p M1 M2)(h:M p=none):Ext M M2:=fun c o q=>b c o (bK q h) (a c o q)
theorem sh_:(("have" : Str) == "have")=true:=beq_self_eq_true _
theorem s_ss:(("some" : Str) == "some")=true:=beq_self_eq_true _
theorem s_ll:(("lack" : Str) == "lack")=true:=beq_self_eq_true _
theorem s_dd:(("lead" : Str) == "lead")=true:=beq_self_eq_true _
theorem s_lh:(("lack" : Str) == "have")=false:=by decide +kernel
theorem s_sh:(("some" : Str) == "have")=false:=by decide +kernel
theorem s_sl:(("some" : Str) == "lack")=false:=by decide +kernel
theorem s_dh:(("lead" : Str) == "have")=false:=by decide +kernel
theorem s_dl:(("lead" : Str) == "lack")=false:=by decide +kernel
theorem s_ds:(("lead" : Str) == "some")=false:=by decide +kernel
def va(c:CA):SpD:=fun ds M Q=>∃t:CT,ds=[t.told]/\∀p M',M p=none->Ext M M'->M' p=some (t.obj c)->Q (.ref p) M'
def oZ:Ss:=.cons (.ret (.fn 0 (.cons (.ix (.var 0) (.int 1)) (.cons (.ix (.var 0) (.int 2)) .nil)))) .nil
def k6:Ss:=.cons (.ite (.cmp .Eq (.ix (.var 0) (.int 0)) (.str "some")) (.cons (.ret (.fn 1 (.cons (.ix (.var 0) (.int 1)) (.cons (.ix (.var 0) (.int 2)) .nil)))) .nil) .nil) oZ
def il:Ss:=.cons (.ite (.cmp .Eq (.ix (.var 0) (.int 0)) (.str "lack")) (.cons (.ret (.fn 2 (.cons (.ix (.var 0) (.int 1)) .nil))) .nil) .nil) k6
def eI:Ss:=.cons (.ite (.cmp .Eq (.ix (.var 0) (.int 0)) (.str "have")) (.cons (.ret (.fn 3 (.cons (.ix (.var 0) (.int 1)) .nil))) .nil) .nil) il
section
variable {cn : Cn} {c : CA} {ds : List D} {M : MH} {Q : DK}
theorem Kg(hF:cn.F=[aX (c.at 3) (bX c 3),aX (c.at 2) (bX c 2),aX (c.at 1) (bX c 1),aX (c.at 0) (bX c 0)])(h:va c ds M Q):wSs cn eI (fin Q) (ag [""] ds) M:=by
 obtain⟨t,rfl,q⟩:=h;show wSs cn eI (fin Q) [some t.told] M;cases t with
 |hav f=>
  unfold eI;simp_all! only[CT.told,at0,at1,at2,hF,List.getD_cons_zero,List.getD_cons_succ,sh_];exact fun x hx=>⟨x,.hav f,rfl,rfl,ab,fun M' h1 h2=>⟨rfl,q x M' hx (u9 hx h1) h2⟩⟩
 |lck f=>
  unfold eI;simp_all! only[CT.told,at0,at1,at2,hF,List.getD_cons_zero,List.getD_cons_succ,s_lh];unfold il;simp_all! only[CT.told,at0,at1,at2,hF,List.getD_cons_zero,List.getD_cons_succ,s_ll];exact fun x hx=>⟨x,.lck f,rfl,rfl,ab,fun M' h1 h2=>⟨rfl,q x M' hx (u9 hx h1) h2⟩⟩
 |som n fs=>
  unfold eI;simp_all! only[CT.told,at0,at1,at2,hF,List.getD_cons_zero,List.getD_cons_succ,s_sh];unfold il;simp_all! only[CT.told,at0,at1,at2,hF,List.getD_cons_zero,List.getD_cons_succ,s_sl];unfold k6;simp_all! only[CT.told,at0,at1,at2,hF,List.getD_cons_zero,List.getD_cons_succ,s_ss];exact fun x hx=>⟨x,.som n fs,rfl,rfl,ab,fun M' h1 h2=>⟨rfl,q x M' hx (u9 hx h1) h2⟩⟩
 |led fs k=>
  unfold eI;simp_all! only[CT.told,at0,at1,at2,hF,List.getD_cons_zero,List.getD_cons_succ,s_dh];unfold il;simp_all! only[CT.told,at0,at1,at2,hF,List.getD_cons_zero,List.getD_cons_succ,s_dl];unfold k6;simp_all! only[CT.told,at0,at1,at2,hF,List.getD_cons_zero,List.getD_cons_succ,s_ds];unfold oZ;simp_all! only[CT.told,at0,at1,at2,hF,List.getD_cons_zero,List.getD_cons_succ];exact fun x hx=>⟨x,.led fs k,rfl,rfl,ab,fun M' h1 h2=>⟨rfl,q x M' hx (u9 hx h1) h2⟩⟩
end
end SH
namespace SH
open PySem L2 DD
theorem fY(n k:Nat):hasB (n:Int) (k:Int)=n.testBit k:=by
 unfold hasB bitZ;rw[Nat.testBit_eq_decide_div_mod_eq,Int.toNat_natCast];have e:(n:Int) / 2 ^ k%2=((n / 2 ^ k%2:Nat):Int):=by simp
 rw[e];by_cases h:n / 2 ^ k%2=1
 ·simp[h]
 ·have h2:n / 2 ^ k%2=0:=by omega
  simp[h2]
def ac(a b:Nat):Nat:=a ^^^ (a&&&b)
theorem aN(a b k:Nat):(ac a b).testBit k=(a.testBit k && !b.testBit k):=by
 unfold ac;rw[Nat.testBit_xor,Nat.testBit_and];cases a.testBit k<;>cases b.testBit k<;>rfl
theorem dR(a b:Nat):ac a b+(a&&&b)=a:=by
 have h:=PyProof.Rows.nat_or_add_and (ac a b) (a&&&b);have h1:ac a b|||(a&&&b)=a:=by
  refine Nat.eq_of_testBit_eq fun k=>?_
  rw[Nat.testBit_or,aN,Nat.testBit_and];cases a.testBit k<;>cases b.testBit k<;>rfl
 have h2:ac a b&&&(a&&&b)=0:=by
  refine Nat.eq_of_testBit_eq fun k=>?_
  rw[Nat.testBit_and,aN,Nat.testBit_and,Nat.zero_testBit];cases a.testBit k<;>cases b.testBit k<;>rfl
 omega
theorem fZ(a b:Nat):Builtin.bitOr (a:Int) (b:Int)=((a|||b:Nat):Int):=by
 rw[PyProof.Rows.bitOr_and,PyProof.Rows.bitAnd_pp (by omega) (by omega),Int.toNat_natCast,Int.toNat_natCast]
 have:=PyProof.Rows.nat_or_add_and a b
 omega
theorem jS(a b:Nat):Builtin.bitAnd (a:Int) (b:Int)=((a&&&b:Nat):Int):=by
 rw[PyProof.Rows.bitAnd_pp (by omega) (by omega),Int.toNat_natCast,Int.toNat_natCast]
theorem bF(a b:Nat):Builtin.bitAnd (a:Int) (-(b:Int)-1)=((ac a b:Nat):Int):=by
 rw[←bitNot_eq,PyProof.Rows.bitAnd_not,jS]
 have:=dR a b
 omega
def nats(fs:List Nat):List D:=fs.map fun(f:Nat)=>D.int (f:Int)
def setN(fs:List Nat):Nat:=fs.foldl (fun a f=>a|||2 ^ f) 0
theorem bq(fs:List Nat)(k:Nat):(setN fs).testBit k=decide (k∈fs):=by
 have key:∀(fs:List Nat) (a:Nat),(fs.foldl (fun a f=>a|||2 ^ f) a).testBit k=(a.testBit k||decide (k∈fs)):=by
  intro fs;induction fs with
  |nil=>intro a;simp
  |cons f fs ih=>
   intro a;rw[List.foldl_cons,ih,Nat.testBit_or,Nat.testBit_two_pow];by_cases e:f=k
   ·subst e;simp
   ·have:k≠f:=fun z=>e z.symm
    simp[e,this]
 unfold setN;rw[key];simp
def memb(n:Nat):List Nat:=(List.range (dP (n:Int))).filter fun f=>n.testBit f
theorem br(n f:Nat):f∈memb n↔n.testBit f=true:=by
 unfold memb;rw[List.mem_filter,List.mem_range];refine⟨fun h=>h.2,fun h=>⟨?_,h⟩⟩;unfold dP Builtin.Int.intBits;have hn:n≠0:=fun z=>by subst z;simp at h
 have hb:((n:Int)==0)=false:=by rw[beq_eq_false_iff_ne];omega
 rw[hb];simp only[Bool.false_eq_true,if_false,Int.natAbs_natCast];have h1:=Nat.ge_two_pow_of_testBit h;have h2:=(Nat.le_log2 hn).2 h1;omega
theorem oA(n:Nat):(memb n).Nodup:=List.Pairwise.filter _ List.nodup_range
theorem Ao{n m:Nat}(h:n<2 ^ m):dP (n:Int)<=m:=by
 unfold dP Builtin.Int.intBits;by_cases hn:n=0
 ·subst hn;simp
 ·have hb:((n:Int)==0)=false:=by rw[beq_eq_false_iff_ne];omega
  rw[hb];simp only[Bool.false_eq_true,if_false,Int.natAbs_natCast]
  have:=(Nat.log2_lt hn).2 h
  omega
def Meets(d:D)(M:MH)(fs:List Nat)(M':MH):Prop:=(d=.tup (nats fs)/\M'=M) \/ ∃a,d=.ref a/\((M a=some (.lst (nats fs))/\M'=M) \/ ∃kvs,keysOf kvs=nats fs/\((M a=some (.dic kvs)/\M'=updM M a (.rod kvs))\/(M a=some (.rod kvs)/\M'=M)))
def gt:SpD:=fun ds M Q=>∃i:Int,ds=[.int i]/\Q (.bl true) M
def cO:SpD:=fun ds M Q=>∃i m:Int,ds=[.int i,.int m]/\Q (.bl (decide (0<=i)&&decide (i<m))) M
def jT:SpD:=fun ds M Q=>∃(d:D) (fs:List Nat) (M':MH),ds=[d]/\Meets d M fs M'/\(∀f∈fs,f<=1000)/\Q (.int (setN fs:Nat)) M'
def bY:SpD:=fun ds M Q=>∃n:Nat,ds=[.int (n:Int)]/\n<2 ^ 1000/\∀p M',M p=none->Ext M M'->M' p=some (.lst (nats (memb n)))->Q (.ref p) M'
def lF:SpD:=fun ds M Q=>∃m:Nat,ds=[.int (m:Int)]/\m<=1000/\Q (.int ((2 ^ m-1:Nat):Int)) M
def j9:Ss:=.cons (.ret (.and (.bi .isinst (.cons (.var 0) (.cons (.ty "int") .nil))) (.not (.bi .isinst (.cons (.var 0) (.cons (.ty "bool") .nil)))))) .nil
def ka:Ss:=.cons (.ret (.and (.fn 0 (.cons (.var 0) .nil)) (.and (.cmp .GtE (.var 0) (.int 0)) (.cmp .Lt (.var 0) (.var 1))))) .nil
def kb:Ss:=.cons (.ret (.var 1)) .nil
def hW:Ss:=.cons (.set 1 (.bin .BitOr (.var 1) (.bin .LShift (.int 1) (.var 2)))) .nil
def sM:Ss:=.cons (.for (.nm 2) (.seq (.var 0)) hW) kb
def mF:Ss:=.cons (.set 1 (.int 0)) sM
def lG:Ss:=.cons (.ret (.comp 1 (.var 1) (.nm 1) (.rg1 (.cons (.mt0 .bits (.var 0)) .nil)) (.yes (.val (.fn 0 (.cons (.var 0) (.cons (.var 1) .nil))))))) .nil
def jf:Ss:=.cons (.ret (.bin .Sub (.bin .LShift (.int 1) (.var 0)) (.int 1))) .nil
section
variable {cn : Cn} {ds : List D} {M : MH} {Q : DK}
theorem Cg(h:gt ds M Q):wSs cn j9 (fin Q) (ag [""] ds) M:=by
 obtain⟨i,rfl,q⟩:=h;show wSs cn j9 (fin Q) [some (.int i)] M;unfold j9;simp! only[tyD];refine⟨by decide,?_⟩;show Bif true _ _;refine⟨by decide,?_⟩;exact q
theorem Ch(f0:cn.F.getD 0 (fun _ _ _=>False)=gt)(h:cO ds M Q):wSs cn ka (fin Q) (ag ["", ""] ds) M:=by
 obtain⟨i,m,rfl,q⟩:=h;show wSs cn ka (fin Q) [some (.int i),some (.int m)] M;unfold ka;simp! only[f0];refine⟨i,rfl,?_⟩;show Bif (decide (0<=i)) _ _;cases b:decide (0<=i) with
 |true=>rw[b,Bool.true_and] at q;exact q
 |false=>rw[b,Bool.false_and] at q;exact q
theorem Ap(h:lF ds M Q):wSs cn jf (fin Q) (ag [""] ds) M:=by
 obtain⟨m,rfl,hm,q⟩:=h;show wSs cn jf (fin Q) [some (.int (m:Int))] M;unfold jf;simp! only[];refine⟨⟨by omega,by omega,by decide⟩,?_⟩;have e:(1:Int)*2 ^ (m:Int).toNat-1=((2 ^ m-1:Nat):Int):=by
  have h1:1<=2 ^ m:=Nat.one_le_two_pow;rw[Int.toNat_natCast,Int.one_mul,Int.ofNat_sub h1];simp
 rw[e];exact q
theorem ER(f0:cn.F.getD 0 (fun _ _ _=>False)=da)(h:bY ds M Q):wSs cn lG (fin Q) (ag [""] ds) M:=by
 obtain⟨n,rfl,hn,q⟩:=h;show wSs cn lG (fin Q) [some (.int (n:Int))] M;unfold lG;simp! only[f0,zv,List.cons_append,List.nil_append,List.replicate];have hb:=Ao hn;refine⟨trivial,⟨by omega,by omega⟩,?_⟩;refine c5 (p:=fun d=>match d with | .int f=>hasB (n:Int) f | _=>false) (ok:=fun σ=>∃v,σ=[some (.int (n:Int)),v]) [] _ ⟨none,rfl⟩ ?_ ?_
 ·intro d hd σ acc rest ⟨v,hv⟩ k
  subst hv;unfold bo at hd;obtain⟨i,hi,rfl⟩:=List.mem_map.1 hd;refine⟨n,0+(i:Int),rfl,by omega,?_⟩;have k1:=k _ ⟨some (.int (0+(i:Int))),rfl⟩;show Bif (hasB (n:Int) (0+(i:Int))) _ _;dsimp only at k1;cases hb:hasB (n:Int) (0+(i:Int)) with
  |true=>rw[hb] at k1;exact⟨trivial,k1⟩
  |false=>rw[hb] at k1;exact⟨trivial,by simpa using k1⟩
 ·intro p hp
  have e:([]++(bo 0 (dP (n:Int))).filter (fun(d:D)=>match d with | .int f=>hasB (n:Int) f | _=>false))=nats (memb n):=by
   unfold bo nats memb;rw[List.nil_append,List.filter_map];have h1:((dP (n:Int):Int)-0).toNat=dP (n:Int):=by omega
   rw[h1];have h2:(List.range (dP (n:Int))).filter ((fun(d:D)=>match d with | .int f=>hasB (n:Int) f | _=>false)∘fun(i:Nat)=>D.int (0+(i:Int)))=(List.range (dP (n:Int))).filter fun f=>n.testBit f:=by
    refine List.filter_congr fun i _=>?_
    show hasB (n:Int) (0+(i:Int))=_;rw[Int.zero_add,fY]
   rw[h2];refine List.map_congr_left fun i _=>?_
   rw[Int.zero_add]
  rw[e];exact q p _ hp (Ext.new hp) ab
theorem Gr(h:jT ds M Q):wSs cn mF (fin Q) (ag ["", "", ""] ds) M:=by
 obtain⟨d,fs,M',rfl,hm,hb,q⟩:=h;show wSs cn mF (fin Q) [some d,none,none] M;unfold mF;simp! only[List.set];unfold sM;simp! only[List.set];have go:∀(g:MH->Prop),g M'->az g (.nm 2) (wSs cn hW) { nx:=wSs cn kb (fin Q),rt:=Q } (nats fs) [some d,some (.int 0),none] M':=by
  intro g hg;have key:∀(fs:List Nat) (a:Nat) (v:Option D),(∀f∈fs,f<=1000)->Q (.int (fs.foldl (fun a f=>a|||2 ^ f) a:Nat)) M'->az g (.nm 2) (wSs cn hW) { nx:=wSs cn kb (fin Q),rt:=Q } (nats fs) [some d,some (.int (a:Int)),v] M':=by
   intro fs;induction fs with
   |nil=>
    intro a v _ q;rw[show nats []=[] from rfl,az];unfold kb;simp! only[];exact q
   |cons f fs ih=>
    intro a v hb q;show az g (.nm 2) (wSs cn hW) _ (.int (f:Int)::nats fs) _ M';rw[az];unfold hW;simp! only[List.set];have hf:=hb f (.head _);refine⟨⟨by omega,by omega,by decide⟩,hg,?_⟩;have e:Builtin.bitOr (a:Int) (1*2 ^ (f:Int).toNat)=((a|||2 ^ f:Nat):Int):=by
     rw[←fZ];simp
    rw[e];exact ih (a|||2 ^ f) _ (fun x hx=>hb x (.tail _ hx)) q
  exact key fs 0 none hb q
 rcases hm with⟨rfl,rfl⟩ | ⟨a,rfl,hm⟩
 ·exact go _ trivial
 ·rcases hm with⟨h1,rfl⟩ | ⟨kvs,hk,⟨h1,rfl⟩ | ⟨h1,rfl⟩⟩
  ·simp only[h1]
   exact go _ h1
  ·simp only[h1,hk]
   exact go _ ab
  ·simp only[h1,hk]
   exact go _ h1
end
end SH
namespace SH
open PySem L2 DD
def CT.fit(m:Int):CT->Prop
 |.hav f=>0<=f/\f<m
 |.lck f=>0<=f/\f<m
 |.som n fs=>(1<=n/\n<=6)/\(0<fs.length/\fs.length<=6)/\fs.Nodup/\∀f∈fs,0<=f/\f<m
 |.led fs k=>(k<fs.length/\fs.length<=6)/\fs.Nodup/\∀f∈fs,0<=f/\f<m
theorem CT.fit_ok{m:Int}(hm:m<=120):∀{t:CT},t.fit m->t.ok
 |.hav f,h=>⟨h.1,Int.lt_of_lt_of_le h.2 hm⟩
 |.lck f,h=>⟨h.1,Int.lt_of_lt_of_le h.2 hm⟩
 |.som n fs,h=>⟨h.2.1,fun f hf=>⟨(h.2.2.2 f hf).1,Int.lt_of_lt_of_le (h.2.2.2 f hf).2 hm⟩⟩
 |.led fs k,h=>⟨h.1,fun f hf=>⟨(h.2.2 f hf).1,Int.lt_of_lt_of_le (h.2.2 f hf).2 hm⟩⟩
def oB:SpD:=fun ds M Q=>∃n:Int,ds=[.int n]/\(1<=n/\n<=6)/\Q (.bl true) M
def mG:SpD:=fun ds M Q=>∃(fs:List Int) (m:Int),ds=[.tup (intL fs),.int m]/\(0<fs.length/\fs.length<=6)/\fs.Nodup/\(∀f∈fs,0<=f/\f<m)/\∀M',Ext M M'->Q (.bl true) M'
def oC:SpD:=fun ds M Q=>∃(t:CT) (m:Int),ds=[t.told,.int m]/\t.fit m/\∀M',Ext M M'->Q (.bl true) M'
def rO:SpD:=fun ds M Q=>∃(h m:Int) (p:Addr) (ts:List CT),ds=[.tup [.int h,.ref p],.int m]/\M p=some (.lst (ts.map CT.told))/\(0<=h/\h<m)/\ts.length<=6/\(∀t∈ts,t.fit m)/\∀M',Ext M M'->Q (.bl true) M'
def ga(j:Nat):Ss:=.cons (.ret (.and (.fn 0 (.cons (.var 0) .nil)) (.and (.cmp .GtE (.var 0) (.int 1)) (.cmp .LtE (.var 0) (.glob j))))) .nil
def fj:Ss:=.cons (.ret (.and (.bi .all (.cons (.comp 1 (.fn 0 (.cons (.var 2) (.cons (.var 1) .nil))) (.nm 2) (.seq (.var 0)) .no) .nil)) (.cmp .Eq (.lenSet (.var 0)) (.bi .len (.cons (.var 0) .nil))))) .nil
def ej(j:Nat):Ss:=.cons (.ite (.or (.not (.val (.bi .isinst (.cons (.var 0) (.cons (.ty "tuple") .nil))))) (.or (.cmp .Lt (.bi .len (.cons (.var 0) .nil)) (.int 1)) (.cmp .Gt (.bi .len (.cons (.var 0) .nil)) (.glob j)))) (.cons (.ret (.bl false)) .nil) .nil) fj
def qo:Ss:=.cons (.ret (.and (.cmp .Eq (.ix (.var 0) (.int 0)) (.str "lead")) (.and (.fn 0 (.cons (.ix (.var 0) (.int 1)) (.cons (.var 1) .nil))) (.fn 1 (.cons (.ix (.var 0) (.int 2)) (.cons (.bi .len (.cons (.ix (.var 0) (.int 1)) .nil)) .nil)))))) .nil
def ma:Ss:=.cons (.ite (.cmp .Eq (.ix (.var 0) (.int 0)) (.str "some")) (.cons (.ret (.and (.fn 2 (.cons (.ix (.var 0) (.int 1)) .nil)) (.fn 0 (.cons (.ix (.var 0) (.int 2)) (.cons (.var 1) .nil))))) .nil) .nil) qo
def md:Ss:=.cons (.ite (.cmp .NotEq (.bi .len (.cons (.var 0) .nil)) (.int 3)) (.cons (.ret (.bl false)) .nil) .nil) ma
def gb:Ss:=.cons (.ite (.or (.cmp .Eq (.ix (.var 0) (.int 0)) (.str "have")) (.cmp .Eq (.ix (.var 0) (.int 0)) (.str "lack"))) (.cons (.ret (.and (.cmp .Eq (.bi .len (.cons (.var 0) .nil)) (.int 2)) (.fn 1 (.cons (.ix (.var 0) (.int 1)) (.cons (.var 1) .nil))))) .nil) .nil) md
def dS:Ss:=.cons (.ite (.or (.not (.val (.bi .isinst (.cons (.var 0) (.cons (.ty "tuple") .nil))))) (.cmp .Lt (.bi .len (.cons (.var 0) .nil)) (.int 2))) (.cons (.ret (.bl false)) .nil) .nil) gb
def kc:Ss:=.cons (.ret (.bi .all (.cons (.comp 1 (.fn 0 (.cons (.var 3) (.cons (.var 1) .nil))) (.nm 3) (.seq (.var 2)) .no) .nil))) .nil
def kd(j:Nat):Ss:=.cons (.ite (.or (.not (.val (.bi .isinst (.cons (.var 2) (.cons (.ty "list") .nil))))) (.cmp .Gt (.bi .len (.cons (.var 2) .nil)) (.glob j))) (.cons (.ret (.bl false)) .nil) .nil) kc
def hZ(j:Nat):Ss:=.cons (.set 2 (.ix (.var 0) (.int 1))) (kd j)
def kL(j:Nat):Ss:=.cons (.ite (.or (.not (.val (.bi .isinst (.cons (.var 0) (.cons (.ty "tuple") .nil))))) (.or (.cmp .NotEq (.bi .len (.cons (.var 0) .nil)) (.int 2)) (.not (.val (.fn 1 (.cons (.ix (.var 0) (.int 0)) (.cons (.var 1) .nil))))))) (.cons (.ret (.bl false)) .nil) .nil) (hZ j)
theorem Aq{g:MH->Prop}{t:Tgt}{c:WT}{e:WE}{F:List D->MH->Prop}{f:D->D}{ok:DS->Prop}{M0:MH}:∀{xs:List D}(acc:List D) (σ:DS) (M:MH),ok σ->Ext M0 M ->
  (∀x∈xs,∀σ acc rest M,ok σ->Ext M0 M->(∀σ' M',ok σ'->Ext M0 M'->aQ g t c e F rest (acc++[f x]) σ' M')->aQ g t c e F (x::rest) acc σ M)->(∀M',Ext M0 M'->F (acc++xs.map f) M')->aQ g t c e F xs acc σ M
 |[],acc,σ,M,_,hM,_,q=>by
  rw[List.map_nil,List.append_nil] at q;exact q M hM
 |x::xs,acc,σ,M,h,hM,st,q=>st x List.mem_cons_self σ acc xs M h hM fun σ' M' h' hM'=>Aq (acc++[f x]) σ' M' h' hM' (fun y hy=>st y (.tail _ hy)) (by simpa using q)
theorem me(t:String):isT t t=true:=by unfold isT;simp
theorem tV:∀(l:List D),blsD (l.map fun _=>D.bl true)=some (l.map fun _=>true)
 |[]=>rfl
 |a::l=>by rw[List.map_cons,blsD,tV l];rfl
theorem Ar{α:Type}(l:List α):(l.map fun _=>true).all id=true:=by simp
theorem Gs{f:Int}{fs:List Int}:oy (intL (f::fs))=none:=rfl
theorem qp:∀(fs:List Int),j5 (intL fs)=some fs
 |[]=>rfl
 |f::fs=>by
  show Option.map _ (j5 (intL fs))=_;rw[qp fs];rfl
theorem As{α:Type}[DecidableEq α]:∀(ks l:List α),(l++ks).Nodup->ks.foldl addK l=l++ks
 |[],l,_=>by simp
 |k::ks,l,h=>by
  have hk:k∉l:=fun z=>by
   have:=(List.nodup_append.1 h).2.2 k z k (.head _)
   exact this rfl
  rw[List.foldl_cons,addK,if_neg hk,As ks (l++[k]) (by simpa using h)];simp
theorem Ci{α:Type}[DecidableEq α](l:List α)(h:l.Nodup):(aV l).length=l.length:=by
 unfold aV;rw[As l [] (by simpa using h)];simp
section
variable {cn : Cn} {ds : List D} {M : MH} {Q : DK} {j : Nat}
theorem At(f0:cn.F.getD 0 (fun _ _ _=>False)=gt)(gj:cn.G.getD j .non=.int 6)(h:oB ds M Q):wSs cn (ga j) (fin Q) (ag [""] ds) M:=by
 obtain⟨n,rfl,hn,q⟩:=h;show wSs cn (ga j) (fin Q) [some (.int n)] M;unfold ga;simp! only[f0,gj];refine⟨n,rfl,?_⟩;have b1:decide ((1:Int)<=n)=true:=decide_eq_true hn.1;have b2:decide (n<=(6:Int))=true:=decide_eq_true hn.2;simp only[b1,b2,aU];exact q
theorem yG(f0:cn.F.getD 0 (fun _ _ _=>False)=cO)(gj:cn.G.getD j .non=.int 6)(h:mG ds M Q):wSs cn (ej j) (fin Q) (ag ["", ""] ds) M:=by
 obtain⟨fs,m,rfl,hl,hnd,hf,q⟩:=h;show wSs cn (ej j) (fin Q) [some (.tup (intL fs)),some (.int m)] M;unfold ej;simp! only[gj,tyD,tU];refine⟨by decide,?_⟩;show Bif false _ _;have b1:decide ((fs.length:Int)<1)=false:=decide_eq_false (by omega);have b2:decide ((6:Int)<(fs.length:Int))=false:=decide_eq_false (by omega);simp only[b1,b2,aM];unfold fj;simp! only[f0,List.cons_append,List.nil_append,List.replicate];refine fW (f:=fun _=>.bl true) (ok:=fun σ=>∃v,σ=[some (.tup (intL fs)),some (.int m),v]) [] _ ⟨none,rfl⟩ ?_ ?_
 ·intro d hd σ acc rest ⟨v,hv⟩ k
  subst hv;obtain⟨f,hfm,rfl⟩:=List.mem_map.1 hd;refine⟨f,m,rfl,?_⟩;have h1:decide (0<=f)=true:=decide_eq_true (hf f hfm).1;have h2:decide (f<m)=true:=decide_eq_true (hf f hfm).2;rw[h1,h2];exact⟨trivial,k _ ⟨_,rfl⟩⟩
 ·intro p hp
  rw[List.nil_append,ab];dsimp only;rw[tV];dsimp only;rw[Ar];simp only[aU,seqL];have e1:=Ext.new (o:=MO.lst ((intL fs).map fun _=>D.bl true)) hp;generalize updM M p (MO.lst ((intL fs).map fun _=>D.bl true))=M1 at *;cases fs with
  |nil=>exact absurd hl.1 (by simp)
  |cons f fs=>
   simp only[rD,Gs,qp,tU];refine⟨by have:=hl.2;omega,⟨rfl,rfl,(by decide:(0:Nat)<=30)⟩,?_⟩;rw[Ci _ hnd,ah,beq_self_eq_true];exact q M1 e1
theorem ES(f0:cn.F.getD 0 (fun _ _ _=>False)=mG)(f1:cn.F.getD 1 (fun _ _ _=>False)=cO)(f2:cn.F.getD 2 (fun _ _ _=>False)=oB)(h:oC ds M Q):wSs cn dS (fin Q) (ag ["", ""] ds) M:=by
 obtain⟨t,m,rfl,ho,q⟩:=h;show wSs cn dS (fin Q) [some t.told,some (.int m)] M;have l2:decide (((1+1:Nat):Int)<2)=false:=by decide
 have l3:decide (((1+1+1:Nat):Int)<2)=false:=by decide
 have e2:(((1+1:Nat):Int)==2)=true:=by decide
 have e3:(((1+1+1:Nat):Int)==3)=true:=by decide
 cases t with
 |hav f=>
  unfold dS;simp_all! only[CT.told,tyD,List.length_cons,List.length_nil,Nat.zero_add];refine⟨by decide,?_⟩;simp only[me,Bool.not_true,aM,l2,l3];unfold gb;simp_all! only[CT.told,at0,at1,at2,sh_,List.length_cons,List.length_nil,Nat.zero_add,f1];simp only[aU,e2];refine⟨f,m,rfl,?_⟩;have h1:decide (0<=f)=true:=decide_eq_true ho.1;have h2:decide (f<m)=true:=decide_eq_true ho.2;rw[h1,h2];exact q M (Ext.refl M)
 |lck f=>
  unfold dS;simp_all! only[CT.told,tyD,List.length_cons,List.length_nil,Nat.zero_add];refine⟨by decide,?_⟩;simp only[me,Bool.not_true,aM,l2,l3];unfold gb;simp_all! only[CT.told,at0,at1,at2,s_lh,s_ll,List.length_cons,List.length_nil,Nat.zero_add,f1];simp only[aU,e2];refine⟨f,m,rfl,?_⟩;have h1:decide (0<=f)=true:=decide_eq_true ho.1;have h2:decide (f<m)=true:=decide_eq_true ho.2;rw[h1,h2];exact q M (Ext.refl M)
 |som n fs=>
  unfold dS;simp_all! only[CT.told,tyD,List.length_cons,List.length_nil,Nat.zero_add];refine⟨by decide,?_⟩;simp only[me,Bool.not_true,aM,l2,l3];unfold gb;simp_all! only[CT.told,at0,at1,at2,s_sh,s_sl];unfold md;simp_all! only[CT.told,at0,at1,at2,List.length_cons,List.length_nil,Nat.zero_add];simp only[Bool.not_true,aM,e3];unfold ma;simp_all! only[CT.told,at0,at1,at2,s_ss,f0,f2];refine⟨n,rfl,ho.1,?_⟩;show Bif true _ _;exact⟨fs,m,rfl,ho.2.1,ho.2.2.1,ho.2.2.2,q⟩
 |led fs k=>
  unfold dS;simp_all! only[CT.told,tyD,List.length_cons,List.length_nil,Nat.zero_add];refine⟨by decide,?_⟩;simp only[me,Bool.not_true,aM,l2,l3];unfold gb;simp_all! only[CT.told,at0,at1,at2,s_dh,s_dl];unfold md;simp_all! only[CT.told,at0,at1,at2,List.length_cons,List.length_nil,Nat.zero_add];simp only[Bool.not_true,aM,e3];unfold ma;simp_all! only[CT.told,at0,at1,at2,s_ds];unfold qo;simp_all! only[CT.told,at0,at1,at2,s_dd,f0,f1,tU];refine⟨fs,m,rfl,⟨by have:=ho.1.1;omega,ho.1.2⟩,ho.2.1,ho.2.2,fun M1 e1=>?_⟩;show Bif true _ _;refine⟨k,(fs.length:Int),rfl,?_⟩;have h1:decide (0<=(k:Int))=true:=decide_eq_true (by omega);have h2:decide ((k:Int)<(fs.length:Int))=true:=decide_eq_true (by have:=ho.1.1;omega);rw[h1,h2];exact q M1 e1
theorem Gu(f0:cn.F.getD 0 (fun _ _ _=>False)=oC)(f1:cn.F.getD 1 (fun _ _ _=>False)=cO)(gj:cn.G.getD j .non=.int 6)(h:rO ds M Q):wSs cn (kL j) (fin Q) (ag ["", "", ""] ds) M:=by
 obtain⟨hd,m,p,ts,rfl,hM,hh,hl,hf,q⟩:=h;show wSs cn (kL j) (fin Q) [some (.tup [.int hd,.ref p]),some (.int m),none] M;unfold kL;simp_all! only[List.set,tyD,at0,at1,List.length_cons,List.length_nil,Nat.zero_add,f1];refine⟨by decide,?_⟩;show Bif false _ _;show Bif false _ _;refine⟨hd,m,rfl,?_⟩;have h1:decide (0<=hd)=true:=decide_eq_true hh.1;have h2:decide (hd<m)=true:=decide_eq_true hh.2;rw[h1,h2];show wSs cn (hZ j) (fin Q) _ M;unfold hZ;simp_all! only[List.set,at0,at1];unfold kd;simp_all! only[List.set,tyD,hM,gj,List.length_map];refine⟨by decide,?_⟩;show Bif false _ _;have b2:decide ((6:Int)<(ts.length:Int))=false:=decide_eq_false (by omega);simp only[b2,aM];unfold kc;simp_all! only[List.set,hM,f0,List.cons_append,List.nil_append,List.replicate];refine Aq (f:=fun _=>.bl true) (M0:=M) (ok:=fun σ=>∃v,σ=[some (.tup [.int hd,.ref p]),some (.int m),some (.ref p),v]) [] _ M ⟨none,rfl⟩ (Ext.refl M) ?_ ?_
 ·intro d hd' σ acc rest M1 ⟨v,hv⟩ e1 k
  subst hv;obtain⟨t,htm,rfl⟩:=List.mem_map.1 hd';exact⟨t,m,rfl,hf t htm,fun M2 e2=>⟨(e1.trans e2) p _ hM,k _ M2 ⟨_,rfl⟩ (e1.trans e2)⟩⟩
 ·intro M1 e1 p2 hp2
  rw[List.nil_append,ab];dsimp only;rw[tV];dsimp only;rw[Ar];exact q _ (e1.then hp2)
end
end SH
namespace SH
open PySem L2 DD
def ar(rs:List Addr):List D:=rs.map D.ref
def cy(c:CA)(M:MH)(rs:List Addr)(ts:List CT):Prop:=Paired (fun r (t:CT)=>M r=some (t.obj c)) rs ts
theorem cy.ext{c:CA}{M M':MH}{rs:List Addr}{ts:List CT}(e:Ext M M')(h:cy c M rs ts):cy c M' rs ts:=kC (fun r t q=>e r _ q) h
def jg(c:CA):SpD:=fun ds M Q=>∃(a:Addr) (h m:Int) (rs:List Addr) (ts:List CT),ds=[.ref a,.int h,.int m]/\M a=some (.lst (ar rs))/\cy c M rs ts/\(∀t∈ts,t.ok)/\∀M',Ext M M'->Q (.bl (ts.all (CT.carried h m))) M'
def er(c:CA):SpD:=fun ds M Q=>∃(rs:List Addr) (ts:List CT),ds=[.tup (ar rs)]/\cy c M rs ts/\(∀t∈ts,t.ok)/\ts.length<=6/\∀p M',M p=none->Ext M M'->M' p=some (.lst (ts.flatMap CT.leans))->Q (.ref p) M'
def iG:Ss:=.cons (.ret (.bl true)) .nil
def iH:Ss:=.cons (.ite (.not (.val (.mu "carried" (.var 3) (.cons (.var 1) (.cons (.var 2) .nil))))) (.cons (.ret (.bl false)) .nil) .nil) .nil
def gu:Ss:=.cons (.for (.nm 3) (.seq (.var 0)) iH) iG
def gH:Ss:=.cons (.ret (.var 1)) .nil
def gI:Ss:=.cons (.expr (.mt .extend (.var 1) (.cons (.mu0 "leaning" (.var 2)) .nil))) .nil
def k9:Ss:=.cons (.for (.nm 2) (.seq (.var 0)) gI) gH
def fm:Ss:=.cons (.set 1 (.lst .nil)) k9
theorem Cj(t:CT):t.flds.lookup ("carried" : Str)=none:=by cases t<;>rfl
theorem Ck(t:CT):t.flds.lookup ("leaning" : Str)=none:=by cases t<;>rfl
theorem Gv{t:CT}(h:t.ok):t.leans.length<=7:=by
 cases t with
 |hav f=>exact(by decide:(1:Nat)<=7)
 |lck f=>exact(by decide:(1:Nat)<=7)
 |som n fs=>
  show(fs.map (cr false)).length<=7;rw[List.length_map];have:=h.1.2;omega
 |led fs k=>
  show((fs.take k).map (cr true)++[cr false (fs.getD k 0)]).length<=7;rw[List.length_append,List.length_map,List.length_take]
  have:=h.1.2
  simp only[List.length_cons,List.length_nil];omega
section
variable {cn : Cn} {c : CA} {ds : List D} {M : MH} {Q : DK}
theorem xf(hT:∀t:CT,cn.T (c.at t.kind) "carried" = some (bH c t.kind))(h:jg c ds M Q):wSs cn gu (fin Q) (ag ["", "", "", ""] ds) M:=by
 obtain⟨a,x,m,rs0,ts0,rfl,hM,hc,ho,q⟩:=h;show wSs cn gu (fin Q) [some (.ref a),some (.int x),some (.int m),none] M;unfold gu;simp! only[List.set,hM];have key:∀(rs:List Addr) (ts:List CT) (v:Option D) (M1:MH),Ext M M1->cy c M rs ts->(∀t∈ts,t.ok)->(∀M',Ext M M'->Q (.bl (ts.all (CT.carried x m))) M') ->
   az (fun M'=>M' a=some (.lst (ar rs0))) (.nm 3) (wSs cn iH) { nx:=wSs cn iG (fin Q),rt:=Q } (ar rs) [some (.ref a),some (.int x),some (.int m),v] M1:=by
  intro rs ts v M1 e1 hc;induction hc generalizing v M1 with
  |nil=>
   intro _ q;rw[show ar []=[] from rfl,az];unfold iG;simp! only[];exact q M1 e1
  |@cons r t rs ts hr _ ih=>
   intro ho q;rw[show ar (r::rs)=.ref r::ar rs from rfl,az];have hr1:M1 r=some (.ins (c.at t.kind) t.flds):=e1 r _ hr;unfold iH;simp! only[List.set,hr1,hT,Cj];refine⟨trivial,r,t,x,m,rfl,ho t (.head _),rfl,hr1,fun M2 e2=>?_⟩;simp only[List.all_cons] at q;cases b:t.carried x m with
   |false=>
    rw[b] at q;exact q M2 (e1.trans e2)
   |true=>
    rw[b] at q;refine⟨(e1.trans e2) a _ hM,ih _ M2 (e1.trans e2) (fun t' h'=>ho t' (.tail _ h')) ?_⟩;simpa using q
 exact key rs0 ts0 none M (Ext.refl M) hc ho q
theorem vb(hT:∀t:CT,cn.T (c.at t.kind) "leaning" = some (bI c t.kind))(h:er c ds M Q):wSs cn fm (fin Q) (ag ["", "", ""] ds) M:=by
 obtain⟨rs0,ts0,rfl,hc,ho,hl,q⟩:=h;show wSs cn fm (fin Q) [some (.tup (ar rs0)),none,none] M;unfold fm;simp! only[List.set];intro p hp;unfold k9;simp! only[List.set];have key:∀(rs:List Addr) (ts:List CT) (v:Option D) (M1:MH) (acc:List D),Ext M M1->M1 p=some (.lst acc)->acc.length+7*ts.length<=42->cy c M rs ts->(∀t∈ts,t.ok)->(∀M',Ext M M'->M' p=some (.lst (acc++ts.flatMap CT.leans))->Q (.ref p) M') ->
   az (fun _=>True) (.nm 2) (wSs cn gI) { nx:=wSs cn gH (fin Q),rt:=Q } (ar rs) [some (.tup (ar rs0)),some (.ref p),v] M1:=by
  intro rs ts v M1 acc e1 hp1 hl hc;induction hc generalizing v M1 acc with
  |nil=>
   intro _ q;rw[show ar []=[] from rfl,az];unfold gH;simp! only[];exact q M1 e1 (by simpa using hp1)
  |@cons r t rs ts hr _ ih=>
   intro ho q;rw[show ar (r::rs)=.ref r::ar rs from rfl,az];have hr1:M1 r=some (.ins (c.at t.kind) t.flds):=e1 r _ hr;have hot:=ho t (.head _);have hlt:=Gv hot;unfold gI;simp! only[List.set,hr1,hp1,hT,Ck];refine⟨rfl,trivial,r,t,rfl,hot,rfl,hr1,fun p2 M2 hp2 e2 g2=>?_⟩;have hp3:=e2 p _ hp1;simp only[hp3,g2];rw[List.length_cons] at hl;have h42:(42:Nat)<=sizeLine:=by decide
   refine⟨by omega,trivial,?_⟩;have hMp:M p=none:=hp;have e3:Ext M (updM M2 p (.lst (acc++t.leans))):=(e1.trans e2).put hMp;refine ih _ _ (acc++t.leans) e3 ab (by rw[List.length_append];omega) (fun t' h'=>ho t' (.tail _ h')) fun M' e' g'=>q M' e' ?_
   rw[List.flatMap_cons,←List.append_assoc];exact g'
 exact key rs0 ts0 none _ [] (Ext.new hp) ab (by simp;omega) hc ho fun M' e' g'=>q p M' hp e' (by simpa using g')
end
end SH
namespace SH
open PySem L2 DD
def bR(M:MH)(ps:List Addr)(L:Nat->MO):Prop:=∀f r,ps[f]?=some r->M r=some (L f)
theorem bR.ext{M M':MH}{ps:List Addr}{L:Nat->MO}(e:Ext M M')(h:bR M ps L):bR M' ps L:=fun f r q=>e r _ (h f r q)
theorem Gw{α:Type}{ps:List α}{i j:Nat}{a:α}(nd:ps.Nodup)(h1:ps[i]?=some a)(h2:ps[j]?=some a):i=j:=
 (List.getElem?_inj (List.getElem?_eq_some_iff.mp h1).1 nd).1 (h1.trans h2.symm)
theorem bR.put{M:MH}{ps:List Addr}{L L':Nat->MO}{h:Nat}{r:Addr}{o:MO}(nd:ps.Nodup)(hr:ps[h]?=some r)(s:bR M ps L)(e1:L' h=o)(e2:∀f,f≠h->L' f=L f):bR (updM M r o) ps L':=fun f r' q=>by
 by_cases e:f=h
 ·subst e
  rw[hr] at q;cases q;rw[ab,e1]
 ·have:r'≠r:=fun z=>by subst z;exact e (Gw nd q hr)
  rw[aH this,e2 f e];exact s f r' q
theorem rP{ps:List Addr}{f:Nat}{r:Addr}(h:ps[f]?=some r):atI (ar ps) (f:Int)=some (.ref r):=gn (by unfold ar;rw[List.getElem?_map,h];rfl)
theorem vc(m:Nat):(bo 0 (m:Int)).length=m:=by unfold bo;rw[List.length_map,List.length_range];omega
theorem cG(fs:List Nat):(nats fs).length=fs.length:=by unfold nats;rw[List.length_map]
theorem oE{i:Nat}{c:WT}{e:WE}{o:MO}{F:List D->MH->Prop}(M0:MH)(hc:∀σ M Q,Q true M->c σ M Q)(he:∀σ M Q,(∀p,M p=none->Q (.ref p) (updM M p o))->e σ M Q):∀(xs:List D) (ps:List Addr) (σ:DS) (M:MH),Ext M0 M->ps.Nodup->(∀p∈ps,M0 p=none/\M p=some o) ->
  (∀ps' M',Ext M0 M'->ps'.Nodup->ps'.length=ps.length+xs.length->(∀p∈ps',M0 p=none/\M' p=some o)->F (ar ps') M')->aQ (fun _=>True) (.nm i) c e F xs (ar ps) σ M
 |[],ps,σ,M,e1,nd,hp,q=>q ps M e1 nd rfl hp
 |x::xs,ps,σ,M,e1,nd,hp,q=>by
  rw[aQ];show c _ M _;refine hc _ _ _ ?_;rw[aU];refine he _ _ _ fun p hn=>⟨trivial,?_⟩
  have:ar ps++[D.ref p]=ar (ps++[p]):=by unfold ar;rw[List.map_append];rfl
  rw[this];refine oE M0 hc he xs (ps++[p]) _ _ (e1.then hn) ?_ ?_ ?_
  ·rw[List.nodup_append]
   refine⟨nd,by simp,fun a ha b hb z=>?_⟩;have hb:b=p:=by simpa using hb
   subst hb;subst z
   have:=(hp a ha).2
   rw[hn] at this;cases this
  ·intro a ha
   rw[List.mem_append] at ha;rcases ha with ha | ha
   ·exact⟨(hp a ha).1,(Ext.new hn) a _ (hp a ha).2⟩
   ·have ha:a=p:=by simpa using ha
    subst ha;exact⟨e1.free hn,ab⟩
  ·intro ps' M' a b d f
   refine q ps' M' a b ?_ f;rw[d,List.length_append,List.length_cons,List.length_cons,List.length_nil];omega
def cI(hs:List Nat)(k f:Nat):List Nat:=(List.range k).filter fun r=>decide (hs[r]?=some f)
theorem vd{hs:List Nat}{k h:Nat}(f:Nat)(e:hs[k]?=some h):cI hs (k+1) f=cI hs k f++(if f=h then[k] else[]):=by
 unfold cI;rw[List.range_succ,List.filter_append];congr 1;by_cases q:f=h
 ·subst q;simp[e]
 ·have:h≠f:=fun z=>q z.symm
  simp[e,q,this]
theorem Au(hs:List Nat)(k f:Nat):(cI hs k f).length<=k:=by
 have:=List.length_filter_le (fun r=>decide (hs[r]?=some f)) (List.range k)
 rw[List.length_range] at this;exact this
def jh:SpD:=fun ds M Q=>∃(m:Nat) (hs:List Nat),ds=[.int (m:Int),.tup (nats hs)]/\m<=1000/\hs.length<=1000/\(∀h∈hs,h<m) /\
 ∀p ps M',M p=none->Ext M M'->M' p=some (.lst (ar ps))->ps.length=m->bR M' ps (fun f=>.lst (nats (cI hs hs.length f)))->Q (.ref p) M'
def gJ:Ss:=.cons (.ret (.var 2)) .nil
def gK:Ss:=.cons (.expr (.mt .append (.ix (.var 2) (.var 4)) (.cons (.var 3) .nil))) .nil
def la:Ss:=.cons (.for (.tp [3,4]) (.enum (.cons (.var 1) .nil)) gK) gJ
def fo:Ss:=.cons (.setC 2 1 (.lst .nil) (.nm 5) (.rg1 (.cons (.var 0) .nil)) .no) la
def db:Ss:=.cons (.ret (.comp 1 (.bk .list (.cons (.var 7) .nil)) (.nm 7) (.seq (.var 2)) .no)) .nil
def gL:Ss:=.cons (.ite (.not (.val (.var 6))) (.cons (.putIx (.ix (.var 2) (.var 5)) (.var 3) (.bl true)) .nil) .nil) .nil
def gM:Ss:=.cons (.for (.tp [5,6]) (.seq (.var 4)) gL) .nil
def lb:Ss:=.cons (.for (.tp [3,4]) (.enum (.cons (.var 1) .nil)) gM) db
def fq:Ss:=.cons (.setC 2 1 .dnew (.nm 7) (.rg1 (.cons (.var 0) .nil)) .no) lb
def CT.leanP:CT->List (Bool×Int)
 |.hav f=>[(false,f)]
 |.lck f=>[(true,f)]
 |.som _ fs=>fs.map fun f=>(false,f)
 |.led fs k=>(fs.take k).map (fun f=>(true,f))++[(false,fs.getD k 0)]
def pairD(x:Bool×Int):D:=cr x.1 x.2
theorem H9(t:CT):t.leans=t.leanP.map pairD:=by
 cases t with
 |hav f=>rfl
 |lck f=>rfl
 |som n fs=>show fs.map (cr false)=(fs.map fun f=>(false,f)).map pairD;rw[List.map_map];rfl
 |led fs k=>show(fs.take k).map (cr true)++[cr false (fs.getD k 0)]=((fs.take k).map (fun f=>(true,f))++[(false,fs.getD k 0)]).map pairD;rw[List.map_append,List.map_map];rfl
theorem ET(ts:List CT):ts.flatMap CT.leans=(ts.flatMap CT.leanP).map pairD:=by
 rw[List.map_flatMap];congr 1
 funext t;exact H9 t
theorem getD_mem{fs:List Int}{k:Nat}(h:k<fs.length):fs.getD k 0∈fs:=by
 have:fs.getD k 0=fs[k]:=by simp[List.getD,List.getElem?_eq_getElem h]
 rw[this];exact List.getElem_mem h
theorem yk{m:Int}{t:CT}(h:t.fit m):∀x∈t.leanP,0<=x.2/\x.2<m:=by
 cases t with
 |hav f=>
  intro x hx;have:x=(false,f):=by simpa [CT.leanP] using hx
  subst this;exact h
 |lck f=>
  intro x hx;have:x=(true,f):=by simpa [CT.leanP] using hx
  subst this;exact h
 |som n fs=>
  intro x hx;obtain⟨f,hf,rfl⟩:=List.mem_map.1 hx;exact h.2.2.2 f hf
 |led fs k=>
  intro x hx;rcases List.mem_append.1 hx with hx | hx
  ·obtain⟨f,hf,rfl⟩:=List.mem_map.1 hx
   exact h.2.2 f (List.mem_of_mem_take hf)
  ·have:x=(false,fs.getD k 0):=by simpa using hx
   subst this;exact h.2.2 _ (getD_mem h.1.1)
def a8(l:List (Bool×Int))(f:Nat):Bool:=decide ((false,(f:Int))∈l)
def bG(ls:List (List (Bool×Int)))(k f:Nat):List Nat:=(List.range k).filter fun r=>a8 (ls.getD r []) f
theorem EU{ls:List (List (Bool×Int))}{k:Nat}{l:List (Bool×Int)}(f:Nat)(e:ls[k]?=some l):bG ls (k+1) f=bG ls k f++(if a8 l f=true then[k] else[]):=by
 unfold bG;rw[List.range_succ,List.filter_append];congr 1;have e2:ls.getD k []=l:=by rw[List.getD_eq_getElem?_getD,e];rfl
 rw[List.filter_cons,e2,List.filter_nil]
theorem Av{ls:List (List (Bool×Int))}{k f r:Nat}(h:r∈bG ls k f):r<k:=List.mem_range.1 (List.mem_filter.1 h).1
theorem Ia(ls:List (List (Bool×Int)))(k f:Nat):(bG ls k f).length<=k:=by
 have:=List.length_filter_le (fun r=>a8 (ls.getD r []) f) (List.range k)
 rw[List.length_range] at this;exact this
def rowK(rs:List Nat):List (Key×D):=rs.map fun(r:Nat)=>(.inl (r:Int),.bl true)
theorem Gx(rs:List Nat):keysOf (rowK rs)=nats rs:=by unfold keysOf rowK nats;rw[List.map_map];rfl
theorem Ib(rs:List Nat)(r:Nat):((rowK rs).any fun kv=>decide (kv.1=(.inl (r:Int):Key)))=decide (r∈rs):=by
 induction rs with
 |nil=>simp[rowK]
 |cons a rs ih=>
  have:rowK (a::rs)=(.inl (a:Int),.bl true)::rowK rs:=rfl
  rw[this,List.any_cons,ih];by_cases e:a=r
  ·subst e;simp
  ·have h1:r≠a:=fun z=>e z.symm
   have h2:¬((a:Int)=(r:Int)):=by omega
   simp[h1,h2]
theorem Aw(rs:List Nat)(r:Nat):putD (rowK rs) (.inl (r:Int)) (.bl true)=rowK (if r∈rs then rs else rs++[r]):=by
 unfold putD;rw[Ib];by_cases e:r∈rs
 ·rw[if_pos (decide_eq_true e),if_pos e]
  unfold rowK;rw[List.map_map];refine List.map_congr_left fun a _=>?_
  show(if(Sum.inl (a:Int):Key)=.inl (r:Int) then _ else _)=_;split<;>rfl
 ·rw[if_neg (by simpa using e),if_neg e]
  unfold rowK;rw[List.map_append];rfl
def ji:SpD:=fun ds M Q=>∃(m:Nat) (pl:Addr) (rs:List Addr) (ls:List (List (Bool×Int))),ds=[.int (m:Int),.ref pl]/\M pl=some (.lst (ar rs))/\rs.length=ls.length/\(∀(k:Nat) (r:Addr) (l:List (Bool×Int)),rs[k]?=some r->ls[k]?=some l->M r=some (.lst (l.map pairD)))/\m<=1000/\ls.length<=1000/\(∀l∈ls,∀x∈l,0<=x.2/\x.2<(m:Int)) /\
 ∀p ps M',M p=none->Ext M M'->M' p=some (.lst (ar ps))->ps.length=m->bR M' ps (fun f=>.lst (nats (bG ls ls.length f)))->Q (.ref p) M'
section
variable {cn : Cn} {ds : List D} {M : MH} {Q : DK}
theorem ve(h:jh ds M Q):wSs cn fo (fin Q) (ag ["", "", "", "", ""] ds) M:=by
 obtain⟨m,hs,rfl,hm,hl,hh,q⟩:=h;show wSs cn fo (fin Q) [some (.int (m:Int)),some (.tup (nats hs)),none,none,none] M;unfold fo;simp! only[List.cons_append,List.nil_append,List.replicate];refine⟨⟨by omega,by omega⟩,?_⟩;refine oE (o:=.lst []) M (fun _ _ _ h=>h) (fun _ _ _ h=>h) (bo 0 (m:Int)) [] _ M (Ext.refl M) .nil (fun p hp=>nomatch hp) ?_;intro ps M1 e1 nd hlen hps p hp;rw[vc,List.length_nil,Nat.zero_add] at hlen;have hpn:M p=none:=e1.free hp;have hne:∀r∈ps,r≠p:=fun r hr=>bK (hps r hr).2 hp
 have e2:Ext M (updM M1 p (.lst (ar ps))):=e1.then hp;have g2:updM M1 p (MO.lst (ar ps)) p=some (.lst (ar ps)):=ab;have s2:bR (updM M1 p (MO.lst (ar ps))) ps (fun f=>.lst (nats (cI hs 0 f))):=fun f r hr=>(Ext.new hp) r _ (hps r (List.mem_of_getElem? hr)).2
 generalize updM M1 p (MO.lst (ar ps))=M2 at *;unfold la;simp! only[List.set];have key:∀(rest:List Nat) (k:Nat) (v3 v4:Option D) (M3:MH),hs.drop k=rest->k<=hs.length->Ext M M3->M3 p=some (.lst (ar ps))->bR M3 ps (fun f=>.lst (nats (cI hs k f))) ->
   az (fun _=>True) (.tp [3,4]) (wSs cn gK) { nx:=wSs cn gJ (fin Q),rt:=Q } (bZ (k:Int) (nats rest)) [some (.int (m:Int)),some (.tup (nats hs)),some (.ref p),v3,v4] M3:=by
  intro rest;induction rest with
  |nil=>
   intro k v3 v4 M3 hd hkk e3 g3 s3;rw[show nats []=[] from rfl,bZ,az];unfold gJ;simp! only[];have hk:hs.length<=k:=by
    have:=congrArg List.length hd
    rw[List.length_drop,List.length_nil] at this;omega
   obtain rfl:k=hs.length:=by omega
   exact q p ps M3 hpn e3 g3 hlen s3
  |cons h rest ih=>
   intro k v3 v4 M3 hd hkk e3 g3 s3;have hk:hs[k]?=some h:=by
    have:=congrArg (·[0]?) hd
    simpa using this
   have hd2:hs.drop (k+1)=rest:=by
    have:=congrArg (List.drop 1) hd
    rw[List.drop_drop] at this;simpa using this
   have hmem:h∈hs:=List.mem_of_getElem? hk;have hkl:k<hs.length:=(List.getElem?_eq_some_iff.mp hk).1;obtain⟨r,hr⟩:∃r,ps[h]?=some r:=⟨ps[h]'(by have:=hh h hmem;omega),List.getElem?_eq_getElem (by have:=hh h hmem;omega)⟩;have hrm:=List.mem_of_getElem? hr;rw[show nats (h::rest)=.int (h:Int)::nats rest from rfl,bZ,az];unfold gK;simp! only[List.set,g3,rP hr,s3 h r hr,cG];have hsz:(1000:Nat)<sizeLine:=by decide
   have hle:=Au hs k h;refine⟨rfl,rfl,by omega,trivial,?_⟩;rw[show((k:Int)+1)=((k+1:Nat):Int) by simp];refine ih (k+1) _ _ _ hd2 hkl (e3.put (hps r hrm).1) ?_ ?_
   ·rw[aH (hne r hrm).symm];exact g3
   ·refine bR.put nd hr s3 ?_ ?_
    ·show MO.lst _=_
     rw[vd h hk,if_pos rfl];unfold nats;rw[List.map_append];rfl
    ·intro f hf
     show MO.lst _=_;rw[vd f hk,if_neg hf,List.append_nil]
 exact key hs 0 none none M2 rfl (Nat.zero_le _) e2 g2 s2
def jj(ls:List (List (Bool×Int)))(k:Nat)(dn:List (Bool×Int))(f:Nat):MO:=.dic (rowK (bG ls k f++(if a8 dn f=true then[k] else[])))
theorem Cl(dn:List (Bool×Int))(g:Int)(f:Nat):a8 (dn++[(true,g)]) f=a8 dn f:=by
 unfold a8;congr 1;simp
theorem Cm(dn:List (Bool×Int))(f:Nat):a8 (dn++[(false,(f:Int))]) f=true:=by
 unfold a8;simp
theorem Ax(dn:List (Bool×Int)){g f:Nat}(h:f≠g):a8 (dn++[(false,(g:Int))]) f=a8 dn f:=by
 unfold a8;congr 1;have:¬(f:Int)=(g:Int):=by omega
 simp[this]
theorem Gy(ls:List (List (Bool×Int)))(k:Nat)(dn:List (Bool×Int))(g:Nat):MO.dic (putD (rowK (bG ls k g++(if a8 dn g=true then[k] else[]))) (.inl (k:Int)) (.bl true))=jj ls k (dn++[(false,(g:Int))]) g:=by
 unfold jj;rw[Aw,Cm,if_pos rfl];have hk:k∉bG ls k g:=fun z=>absurd (Av z) (Nat.lt_irrefl _)
 by_cases e:a8 dn g=true
 ·rw[if_pos e,if_pos (by simp)]
 ·rw[if_neg e,List.append_nil,if_neg hk]
theorem vf(h:ji ds M Q):wSs cn fq (fin Q) (ag ["", "", "", "", "", "", ""] ds) M:=by
 obtain⟨m,pl,rs,ls,rfl,hpl,hrl,hrs,hm,hl,hf,q⟩:=h;show wSs cn fq (fin Q) [some (.int (m:Int)),some (.ref pl),none,none,none,none,none] M;unfold fq;simp! only[List.cons_append,List.nil_append,List.replicate];refine⟨⟨by omega,by omega⟩,?_⟩;refine oE (o:=.dic []) M (fun _ _ _ h=>h) (fun _ _ _ h=>h) (bo 0 (m:Int)) [] _ M (Ext.refl M) .nil (fun p hp=>nomatch hp) ?_;intro ps M1 e1 nd hlen hps p hp;rw[vc,List.length_nil,Nat.zero_add] at hlen;have hpn:M p=none:=e1.free hp;have hne:∀r∈ps,r≠p:=fun r hr=>bK (hps r hr).2 hp
 have e2:Ext M (updM M1 p (.lst (ar ps))):=e1.then hp;have g2:updM M1 p (MO.lst (ar ps)) p=some (.lst (ar ps)):=ab;have s2:bR (updM M1 p (MO.lst (ar ps))) ps (jj ls 0 []):=fun f r hr=>(Ext.new hp) r _ (hps r (List.mem_of_getElem? hr)).2
 generalize updM M1 p (MO.lst (ar ps))=M2 at *;unfold lb;simp! only[List.set,e2 pl _ hpl];have last:∀(v3 v4 v5 v6:Option D) (M3:MH),Ext M M3->M3 p=some (.lst (ar ps))->bR M3 ps (jj ls ls.length [])->wSs cn db (fin Q) [some (.int (m:Int)),some (.ref pl),some (.ref p),v3,v4,v5,v6] M3:=by
  intro v3 v4 v5 v6 M3 e3 g3 s3;unfold db;simp! only[g3,List.cons_append,List.nil_append,List.replicate,dBk,iY];have key:∀(rest:List Addr) (k:Nat) (qs:List Addr) (v:Option D) (M4:MH),ps.drop k=rest->k<=ps.length->qs.length=k->Ext M3 M4->bR M4 qs (fun f=>.lst (nats (bG ls ls.length f))) ->
    aQ (fun M'=>M' p=some (.lst (ar ps))) (.nm 7) (wTo cn .no) (wE cn (.bk .list (.cons (.var 7) .nil))) (fun ds M'=>∀p,M' p=none->Q (.ref p) (updM M' p (.lst ds))) (ar rest) (ar qs) [some (.int (m:Int)),some (.ref pl),some (.ref p),v3,v4,v5,v6,v] M4:=by
   intro rest;induction rest with
   |nil=>
    intro k qs v M4 hd hkk hq e4 s4;rw[show ar []=[] from rfl,aQ];intro p2 hp2;have hk:ps.length<=k:=by
     have:=congrArg List.length hd
     rw[List.length_drop,List.length_nil] at this;omega
    exact q p2 qs _ ((e3.trans e4).free hp2) ((e3.trans e4).then hp2) ab (by omega) (s4.ext (Ext.new hp2))
   |cons r rest ih=>
    intro k qs v M4 hd hkk hq e4 s4;have hk:ps[k]?=some r:=by
     have:=congrArg (·[0]?) hd
     simpa using this
    have hd2:ps.drop (k+1)=rest:=by
     have:=congrArg (List.drop 1) hd
     rw[List.drop_drop] at this;simpa using this
    have hkl:k<ps.length:=(List.getElem?_eq_some_iff.mp hk).1;have hr4:M4 r=some (.dic (rowK (bG ls ls.length k))):=by
     rw[e4 r _ (s3 k r hk)];unfold jj;rw[if_neg (by unfold a8;simp),List.append_nil]
    rw[show ar (r::rest)=.ref r::ar rest from rfl,aQ];simp! only[List.set,dBk,iY,hr4,rdD,Gx];intro p2 hp2;refine⟨(e4.trans (Ext.new hp2)) p _ g3,?_⟩;have:ar qs++[D.ref p2]=ar (qs++[p2]):=by unfold ar;rw[List.map_append];rfl
    rw[this];refine ih (k+1) (qs++[p2]) _ _ hd2 hkl (by rw[List.length_append,hq];rfl) (e4.then hp2) fun f r' hr'=>?_
    by_cases hfk:f<qs.length
    ·rw[List.getElem?_append_left hfk] at hr'
     exact(Ext.new hp2) r' _ (s4 f r' hr')
    ·rw[List.getElem?_append_right (by omega)] at hr'
     have hz:f-qs.length=0:=by
      have:=(List.getElem?_eq_some_iff.mp hr').1
      simp only[List.length_cons,List.length_nil] at this;omega
     rw[hz] at hr';have:p2=r':=by simpa using hr'
     subst this;obtain rfl:f=k:=by omega
     exact ab
  exact key ps 0 [] none M3 rfl (Nat.zero_le _) rfl (Ext.refl M3) (fun f r hr=>by simp at hr)
 have outer:∀(rest:List Addr) (k:Nat) (v3 v4 v5 v6:Option D) (M3:MH),rs.drop k=rest->k<=rs.length->Ext M M3->M3 p=some (.lst (ar ps))->bR M3 ps (jj ls k []) ->
   az (fun M'=>M' pl=some (.lst (ar rs))) (.tp [3,4]) (wSs cn gM) { nx:=wSs cn db (fin Q),rt:=Q } (bZ (k:Int) (ar rest)) [some (.int (m:Int)),some (.ref pl),some (.ref p),v3,v4,v5,v6] M3:=by
  intro rest;induction rest with
  |nil=>
   intro k v3 v4 v5 v6 M3 hd hkk e3 g3 s3;rw[show ar []=[] from rfl,bZ,az];have hk:rs.length<=k:=by
    have:=congrArg List.length hd
    rw[List.length_drop,List.length_nil] at this;omega
   obtain rfl:k=ls.length:=by omega
   exact last v3 v4 v5 v6 M3 e3 g3 s3
  |cons r rest ih=>
   intro k v3 v4 v5 v6 M3 hd hkk e3 g3 s3;have hk:rs[k]?=some r:=by
    have:=congrArg (·[0]?) hd
    simpa using this
   have hd2:rs.drop (k+1)=rest:=by
    have:=congrArg (List.drop 1) hd
    rw[List.drop_drop] at this;simpa using this
   have hkl:k<rs.length:=(List.getElem?_eq_some_iff.mp hk).1;obtain⟨l,hlk⟩:∃l,ls[k]?=some l:=⟨ls[k]'(by omega),List.getElem?_eq_getElem (by omega)⟩;have hr:=hrs k r l hk hlk;have hfl:=hf l (List.mem_of_getElem? hlk);rw[show ar (r::rest)=.ref r::ar rest from rfl,bZ,az];unfold gM;simp! only[List.set,e3 r _ hr];refine⟨rfl,?_⟩;have inner:∀(rst dn:List (Bool×Int)) (v5 v6:Option D) (M4:MH),l=dn++rst->Ext M M4->M4 p=some (.lst (ar ps))->bR M4 ps (jj ls k dn)->∀(N:DS->MH->Prop),
     (∀w5 w6 M5,Ext M M5->M5 p=some (.lst (ar ps))->bR M5 ps (jj ls k l)->N [some (.int (m:Int)),some (.ref pl),some (.ref p),some (.int (k:Int)),some (.ref r),w5,w6] M5) ->
     ∀E:EndsD,E.nx=N ->
     az (fun M'=>M' r=some (.lst (l.map pairD))) (.tp [5,6]) (wSs cn gL) E (rst.map pairD) [some (.int (m:Int)),some (.ref pl),some (.ref p),some (.int (k:Int)),some (.ref r),v5,v6] M4:=by
    intro rst;induction rst with
    |nil=>
     intro dn v5 v6 M4 hdn e4 g4 s4 N hN E hE;rw[List.append_nil] at hdn;subst hdn;rw[List.map_nil,az,hE];exact hN v5 v6 M4 e4 g4 s4
    |cons x rst ih2=>
     intro dn v5 v6 M4 hdn e4 g4 s4 N hN E hE;obtain⟨b,gi⟩:=x;have hx:=hfl (b,gi) (by rw[hdn];simp);obtain⟨g,rfl⟩:∃g:Nat,gi=(g:Int):=⟨gi.toNat,by have:=hx.1;simp only at this;omega⟩;have hgm:g<ps.length:=by have:=hx.2;simp only at this;omega
     obtain⟨z,hz⟩:∃z,ps[g]?=some z:=⟨ps[g],List.getElem?_eq_getElem hgm⟩;have hzm:=List.mem_of_getElem? hz;have hdn2:l=(dn++[(b,(g:Int))])++rst:=by rw[hdn];simp
     rw[List.map_cons,show pairD (b,(g:Int))=.tup [.int (g:Int),.bl b] from rfl,az];unfold gL;cases b with
     |true=>
      simp! only[List.set,Bool.not_true];refine⟨rfl,e4 r _ hr,ih2 _ _ _ M4 hdn2 e4 g4 (fun f r' hr'=>?_) N hN E hE⟩;rw[s4 f r' hr'];unfold jj;rw[Cl]
     |false=>
      have hz4:M4 z=some (.dic (rowK (bG ls k g++(if a8 dn g=true then[k] else[])))):=s4 g z hz;simp! only[List.set,Bool.not_false,g4,rP hz,hz4];have hsz:(2000:Nat)<sizeLine:=by decide
      have hle:=Ia ls k g;refine⟨rfl,?_,?_⟩
      ·unfold rowK
       rw[List.length_map,List.length_append];have:(if a8 dn g=true then[k] else[]).length<=1:=by split<;>simp
       omega
      have e5:=e4.put (o:=.dic (putD (rowK (bG ls k g++(if a8 dn g=true then[k] else[]))) (.inl (k:Int)) (.bl true))) (hps z hzm).1;refine⟨e5 r _ hr,ih2 _ _ _ _ hdn2 e5 ?_ (bR.put nd hz s4 ?_ ?_) N hN E hE⟩
      ·rw[aH (hne z hzm).symm];exact g4
      ·exact(Gy ls k dn g).symm
      ·intro f hfg
       unfold jj;rw[Ax dn hfg]
   refine inner l [] v5 v6 M3 rfl e3 g3 s3 _ ?_ _ rfl;intro w5 w6 M5 e5 g5 s5;refine⟨e5 pl _ hpl,?_⟩;rw[show((k:Int)+1)=((k+1:Nat):Int) by simp];refine ih (k+1) _ _ _ _ M5 hd2 hkl e5 g5 fun f r' hr'=>?_
   rw[s5 f r' hr'];unfold jj;rw[EU f hlk,if_neg (show ¬a8 [] f=true by unfold a8;simp),List.append_nil]
 exact outer rs 0 none none none none M2 rfl (Nat.zero_le _) e2 g2 s2
end
end SH
namespace SH
open PySem L2 DD
abbrev Row:=Nat×List CT
structure RowsOk (m:Nat) (rows:List Row):Prop where
 most:m<=120
 few:rows.length<=400
 fit:∀x∈rows,x.1<m/\x.2.length<=6/\∀t∈x.2,t.fit (m:Int)
def b0(x:Row):List (Bool×Int):=x.2.flatMap CT.leanP
def aJ(rows:List Row):List Nat:=rows.map (·.1)
def aS(crs:List (List Addr)):List D:=crs.map fun rs=>.tup (ar rs)
def hid(a:Addr)(M:MH):MH:=fun b=>if b=a then none else M b
theorem eJ(a:Addr)(M:MH)(o:MO):hid a (updM M a o)=hid a M:=by
 funext b;unfold hid updM;split<;>rfl
theorem qr{a b:Addr}{M:MH}(h:b≠a):hid a M b=M b:=if_neg h
theorem bu{a:Addr}{M M':MH}(e:Ext M M'):Ext (hid a M) (hid a M'):=fun b o q=>by
 unfold hid at q ⊢;split at q
 ·cases q
 ·rename_i n
  rw[if_neg n];exact e b o q
theorem cR(a:Addr)(M:MH):Ext (hid a M) M:=fun b o q=>by
 unfold hid at q;split at q
 ·cases q
 ·exact q
theorem iQ{a b S:Addr}{M:MH}{fs:List (Str×D)}{xs:List D}(ha:M a=some (.ins S fs))(hb:M b=some (.lst xs)):hid a M b=some (.lst xs):=by
 rw[qr]
 ·exact hb
 ·intro z;subst z;rw[ha] at hb;cases hb
theorem Kh{a b S:Addr}{M M':MH}{fs:List (Str×D)}{o:MO}(ha:M a=some (.ins S fs))(hb:M b=none)(h:M' b=some o):hid a M' b=some o:=by
 rw[qr]
 ·exact h
 ·intro z;subst z;rw[ha] at hb;cases hb
def aL(M:MH)(rds:List D)(rows:List Row):Prop:=Paired (fun d (x:Row)=>∃q,d=.tup [.int (x.1:Int),.ref q]/\M q=some (.lst (x.2.map CT.told))) rds rows
theorem aL.ext{M M':MH}{rds:List D}{rows:List Row}(e:Ext M M')(h:aL M rds rows):aL M' rds rows:=kC (fun _ _ ⟨q,a,b⟩=>⟨q,a,e q _ b⟩) h
theorem aL.hid{a S:Addr}{M:MH}{fs:List (Str×D)}{rds:List D}{rows:List Row}(ha:M a=some (.ins S fs))(h:aL M rds rows):aL (SH.hid a M) rds rows:=kC (fun _ _ ⟨q,a,b⟩=>⟨q,a,iQ ha b⟩) h
def iI(c:CA)(M:MH)(crs:List (List Addr))(rows:List Row):Prop:=Paired (fun rs (x:Row)=>cy c M rs x.2) crs rows
theorem iI.ext{c:CA}{M M':MH}{crs:List (List Addr)}{rows:List Row}(e:Ext M M')(h:iI c M crs rows):iI c M' crs rows:=kC (fun _ _ q=>cy.ext e q) h
def gc(m:Nat)(rows:List Row)(crs:List (List Addr))(p1 p2 p3:Addr):List (Str×D):=[("many",.int (m:Int)),("heads",.tup (nats (aJ rows))),("conds",.tup (aS crs)),("headed",.ref p1),("leanings",.ref p2),("helped",.ref p3)]
def rQ(M:MH)(ps:List Addr)(rows:List Row):Prop:=ps.length=rows.length/\∀(k:Nat) (r:Addr) (x:Row),ps[k]?=some r->rows[k]?=some x->M r=some (.lst ((b0 x).map pairD))
structure SheetAt (c:CA) (S:Addr) (M:MH) (a:Addr) (m:Nat) (rows:List Row):Prop where
 ok:RowsOk m rows
 ex:∃(crs:List (List Addr)) (p1 p2 p3:Addr) (ps1 ps2 ps3:List Addr),M a=some (.ins S (gc m rows crs p1 p2 p3))/\iI c M crs rows /\
  (M p1=some (.lst (ar ps1))/\ps1.length=m/\bR M ps1 (fun f=>.lst (nats (cI (aJ rows) rows.length f)))) /\
  (M p2=some (.lst (ar ps2))/\rQ M ps2 rows) /\
  (M p3=some (.lst (ar ps3))/\ps3.length=m/\bR M ps3 (fun f=>.lst (nats (bG (rows.map b0) rows.length f))))
theorem SheetAt.ext{c:CA}{S:Addr}{M M':MH}{a:Addr}{m:Nat}{rows:List Row}(e:Ext M M')(h:SheetAt c S M a m rows):SheetAt c S M' a m rows:=by
 obtain⟨ok,crs,p1,p2,p3,ps1,ps2,ps3,h1,h2,⟨h3,h4,h5⟩,⟨h6,h7⟩,h8,h9,h10⟩:=h;exact⟨ok,crs,p1,p2,p3,ps1,ps2,ps3,e _ _ h1,h2.ext e,⟨e _ _ h3,h4,h5.ext e⟩,⟨e _ _ h6,h7.1,fun k r x q1 q2=>e _ _ (h7.2 k r x q1 q2)⟩,e _ _ h8,h9,h10.ext e⟩
def kM:List Str:=["many", "heads", "conds", "headed", "leanings", "helped"]
def eL(c:CA)(S:Addr):SpD:=fun ds M Q=>∃(a:Addr) (m:Nat) (pr:Addr) (rds:List D) (rows:List Row),ds=[.ref a,.int (m:Int),.ref pr]/\M a=some (.ins S [])/\M pr=some (.lst rds)/\aL M rds rows/\RowsOk m rows /\
 ∀M',ExtBut a M M'->SheetAt c S M' a m rows->Q .non M'
def iR(c:CA)(S:Addr):SpD:=fun ds M Q=>∃(a:Addr) (m:Nat) (rows:List Row),ds=[.ref a]/\SheetAt c S M a m rows/\Q (.int (m:Int)) M
def kN(c:CA)(S:Addr):SpD:=fun ds M Q=>∃(a:Addr) (m:Nat) (rows:List Row) (f:Nat),ds=[.ref a,.int (f:Int)]/\SheetAt c S M a m rows/\f<m/\∀p M',M p=none->Ext M M'->M' p=some (.lst (nats (cI (aJ rows) rows.length f)))->Q (.ref p) M'
def ge(c:CA)(S:Addr):SpD:=fun ds M Q=>∃(a:Addr) (m:Nat) (rows:List Row) (f:Nat),ds=[.ref a,.int (f:Int)]/\SheetAt c S M a m rows/\f<m/\∀p M',M p=none->Ext M M'->M' p=some (.lst (nats (bG (rows.map b0) rows.length f)))->Q (.ref p) M'
def jU(c:CA)(S:Addr):SpD:=fun ds M Q=>∃(a:Addr) (m:Nat) (rows:List Row) (r:Nat) (x:Row),ds=[.ref a,.int (r:Int)]/\SheetAt c S M a m rows/\rows[r]?=some x/\Q (.int (x.1:Int)) M
def kO(c:CA)(S:Addr):SpD:=fun ds M Q=>∃(a:Addr) (m:Nat) (rows:List Row) (r:Nat) (x:Row),ds=[.ref a,.int (r:Int)]/\SheetAt c S M a m rows/\rows[r]?=some x/\∀p rs M',M p=none->Ext M M'->M' p=some (.lst (ar rs))->cy c M' rs x.2->Q (.ref p) M'
def dc:Ss:=.cons (.ret (.fld (.var 0) "many")) .nil
def de:Ss:=.cons (.ret (.bk .list (.cons (.ix (.fld (.var 0) "headed") (.var 1)) .nil))) .nil
def cu:Ss:=.cons (.ret (.bk .list (.cons (.ix (.fld (.var 0) "helped") (.var 1)) .nil))) .nil
def dU:Ss:=.cons (.ret (.ix (.fld (.var 0) "heads") (.var 1))) .nil
def df:Ss:=.cons (.ret (.bk .list (.cons (.ix (.fld (.var 0) "conds") (.var 1)) .nil))) .nil
section
variable {m : Nat} {rows : List Row} {crs : List (List Addr)} {p1 p2 p3 : Addr}
theorem Ki:(gc m rows crs p1 p2 p3).lookup ("many" : Str)=some (.int (m:Int)):=rfl
theorem Ic:(gc m rows crs p1 p2 p3).lookup ("heads" : Str)=some (.tup (nats (aJ rows))):=rfl
theorem Id:(gc m rows crs p1 p2 p3).lookup ("conds" : Str)=some (.tup (aS crs)):=rfl
theorem Gz:(gc m rows crs p1 p2 p3).lookup ("headed" : Str)=some (.ref p1):=rfl
theorem GA:(gc m rows crs p1 p2 p3).lookup ("helped" : Str)=some (.ref p3):=rfl
end
section
variable {cn : Cn} {c : CA} {S : Addr} {ds : List D} {M : MH} {Q : DK}
theorem Co(hO:∀f∈kM,cn.O S f)(h:iR c S ds M Q):wSs cn dc (fin Q) (ag [""] ds) M:=by
 obtain⟨a,m,rows,rfl,⟨ok,crs,p1,p2,p3,ps1,ps2,ps3,h1,-⟩,q⟩:=h;show wSs cn dc (fin Q) [some (.ref a)] M;unfold dc;simp! only[h1,Ki];exact⟨hO _ (by decide +kernel),q⟩
theorem Cp(hO:∀f∈kM,cn.O S f)(h:kN c S ds M Q):wSs cn de (fin Q) (ag ["", ""] ds) M:=by
 obtain⟨a,m,rows,f,rfl,⟨ok,crs,p1,p2,p3,ps1,ps2,ps3,h1,-,⟨h3,h4,h5⟩,-,-⟩,hf,q⟩:=h;show wSs cn de (fin Q) [some (.ref a),some (.int (f:Int))] M;have hz:ps1[f]?=some (ps1[f]'(by omega)):=List.getElem?_eq_getElem (by omega);unfold de;simp! only[h1,Gz,h3,rP hz,dBk,iY,h5 f _ hz,rdD,rdL];exact⟨hO _ (by decide +kernel),fun p hp=>q p _ hp (Ext.new hp) ab⟩
theorem xg(hO:∀f∈kM,cn.O S f)(h:ge c S ds M Q):wSs cn cu (fin Q) (ag ["", ""] ds) M:=by
 obtain⟨a,m,rows,f,rfl,⟨ok,crs,p1,p2,p3,ps1,ps2,ps3,h1,-,-,-,h3,h4,h5⟩,hf,q⟩:=h;show wSs cn cu (fin Q) [some (.ref a),some (.int (f:Int))] M;have hz:ps3[f]?=some (ps3[f]'(by omega)):=List.getElem?_eq_getElem (by omega);unfold cu;simp! only[h1,GA,h3,rP hz,dBk,iY,h5 f _ hz,rdD,rdL];exact⟨hO _ (by decide +kernel),fun p hp=>q p _ hp (Ext.new hp) ab⟩
theorem EV(hO:∀f∈kM,cn.O S f)(h:jU c S ds M Q):wSs cn dU (fin Q) (ag ["", ""] ds) M:=by
 obtain⟨a,m,rows,r,x,rfl,⟨ok,crs,p1,p2,p3,ps1,ps2,ps3,h1,-⟩,hr,q⟩:=h;show wSs cn dU (fin Q) [some (.ref a),some (.int (r:Int))] M;have hz:atI (nats (aJ rows)) (r:Int)=some (.int (x.1:Int)):=gn (by unfold nats aJ;rw[List.getElem?_map,List.getElem?_map,hr];rfl);unfold dU;simp! only[h1,Ic,hz];exact⟨hO _ (by decide +kernel),q⟩
theorem DV{α β:Type}{F:α->β->Prop}:∀{l:List α}{m:List β}{i:Nat}{b:β},Paired F l m->m[i]?=some b->∃a,l[i]?=some a/\F a b
 |_,_,_,_,.nil,h=>by simp at h
 |_,_,0,_,.cons r _,h=>by
  rw[List.getElem?_cons_zero] at h;cases h;exact⟨_,rfl,r⟩
 |_,_,i+1,_,.cons _ t,h=>DV (i:=i) t (by simpa using h)
theorem Cq(hO:∀f∈kM,cn.O S f)(h:kO c S ds M Q):wSs cn df (fin Q) (ag ["", ""] ds) M:=by
 obtain⟨a,m,rows,r,x,rfl,⟨ok,crs,p1,p2,p3,ps1,ps2,ps3,h1,h2,-⟩,hr,q⟩:=h;show wSs cn df (fin Q) [some (.ref a),some (.int (r:Int))] M;obtain⟨rs,hrs,hc⟩:=DV h2 hr;have hz:atI (aS crs) (r:Int)=some (.tup (ar rs)):=gn (by unfold aS;rw[List.getElem?_map,hrs];rfl);unfold df;simp! only[h1,Id,hz,dBk,iY];exact⟨hO _ (by decide +kernel),fun p hp=>q p rs _ hp (Ext.new hp) ab (hc.ext (Ext.new hp))⟩
end
end SH
namespace SH
open PySem L2 DD
def fu:Ss:=.cons (.setF (.var 0) "helped" (.fn 0 (.cons (.var 1) (.cons (.fld (.var 0) "leanings") .nil)))) .nil
def fw:Ss:=.cons (.setF (.var 0) "leanings" (.comp 1 (.fn 1 (.cons (.var 5) .nil)) (.nm 5) (.seq (.fld (.var 0) "conds")) .no)) fu
def fA:Ss:=.cons (.setF (.var 0) "headed" (.fn 2 (.cons (.var 1) (.cons (.fld (.var 0) "heads") .nil)))) fw
def fB:Ss:=.cons (.setF (.var 0) "conds" (.bi .tuple (.cons (.comp 1 (.bi .tuple (.cons (.comp 1 (.fn 3 (.cons (.var 6) .nil)) (.nm 6) (.seq (.ix (.var 5) (.int 1))) .no) .nil)) (.nm 5) (.seq (.var 2)) .no) .nil))) fA
def fD:Ss:=.cons (.setF (.var 0) "heads" (.bi .tuple (.cons (.comp 1 (.ix (.var 5) (.int 0)) (.nm 5) (.seq (.var 2)) .no) .nil))) fB
def ca:Ss:=.cons (.setF (.var 0) "many" (.var 1)) fD
def cb:Ss:=.cons (.ite (.not (.val (.fn 4 (.cons (.var 4) (.cons (.var 1) .nil))))) (.cons .never .nil) .nil) .nil
def fE:Ss:=.cons (.for (.tp [3,4]) (.enum (.cons (.var 2) .nil)) cb) ca
def et(j l:Nat):Ss:=.cons (.ite (.or (.not (.val (.fn 5 (.cons (.var 1) (.cons (.bin .Add (.glob j) (.int 1)) .nil))))) (.or (.not (.val (.bi .isinst (.cons (.var 2) (.cons (.ty "list") .nil))))) (.cmp .Gt (.bi .len (.cons (.var 2) .nil)) (.glob l)))) (.cons .never .nil) .nil) fE
abbrev sF1(x:D):List (Str×D):=[("many",x)]
abbrev sF2(x y:D):List (Str×D):=[("many",x),("heads",y)]
abbrev sF3(x y z:D):List (Str×D):=[("many",x),("heads",y),("conds",z)]
abbrev sF4(x y z u:D):List (Str×D):=[("many",x),("heads",y),("conds",z),("headed",u)]
abbrev sF5(x y z u v:D):List (Str×D):=[("many",x),("heads",y),("conds",z),("headed",u),("leanings",v)]
abbrev sF6(x y z u v w:D):List (Str×D):=[("many",x),("heads",y),("conds",z),("headed",u),("leanings",v),("helped",w)]
theorem pf0(x:D):cq ("many" : Str) x []=sF1 x:=rfl
theorem pf1(x y:D):cq ("heads" : Str) y (sF1 x)=sF2 x y:=rfl
theorem pf2(x y z:D):cq ("conds" : Str) z (sF2 x y)=sF3 x y z:=rfl
theorem pf3(x y z u:D):cq ("headed" : Str) u (sF3 x y z)=sF4 x y z u:=rfl
theorem pf4(x y z u v:D):cq ("leanings" : Str) v (sF4 x y z u)=sF5 x y z u v:=rfl
theorem pf5(x y z u v w:D):cq ("helped" : Str) w (sF5 x y z u v)=sF6 x y z u v w:=rfl
theorem lf2(x y z:D):List.lookup ("heads" : Str) (sF3 x y z)=some y:=rfl
theorem lf3(x y z u:D):List.lookup ("conds" : Str) (sF4 x y z u)=some z:=rfl
theorem lf4(x y z u v:D):List.lookup ("leanings" : Str) (sF5 x y z u v)=some v:=rfl
theorem Ie{M:MH}{rds:List D}{rows:List Row}(h:aL M rds rows):([]++rds.map fun d=>match d with | .tup (h::_)=>h | _=>.non)=nats (aJ rows):=by
 rw[List.nil_append];induction h with
 |nil=>rfl
 |@cons d x ds rs hd _ ih=>
  obtain⟨q1,rfl,-⟩:=hd;rw[List.map_cons,ih];rfl
section
variable {cn : Cn} {c : CA} {S : Addr}
theorem yl{g:MH->Prop}{tc:WT}{te:WE}{F:List D->MH->Prop}{a:Addr}{fs:List (Str×D)}{σ0:DS}{i:Nat}{M0:MH}(hc:∀σ M Q,Q true M->tc σ M Q)(hg:∀M,Ext M0 M->g M)
  (he:∀(t:CT) (M:MH) (Q:DK),(∀p M',M p=none->Ext M M'->M' p=some (t.obj c)->Q (.ref p) M')->te (σ0.set i (some (CT.told t))) M Q) (hset:∀v w:Option D,(σ0.set i v).set i w=σ0.set i w) (h0:M0 a=some (.ins S fs)):
  ∀(ts:List CT) (dn:List CT) (rs:List Addr) (v:Option D) (M:MH),Ext M0 M->cy c (hid a M) rs dn->(∀rs' M',Ext M0 M'->cy c (hid a M') rs' (dn++ts)->F (ar rs') M')->aQ g (.nm i) tc te F (ts.map CT.told) (ar rs) (σ0.set i v) M
 |[],dn,rs,v,M,e,h,q=>by
  rw[List.append_nil] at q;exact q rs M e h
 |t::ts,dn,rs,v,M,e,h,q=>by
  rw[List.map_cons,aQ];show tc _ M _;refine hc _ _ _ ?_;rw[aU,hset];refine he t M _ fun p M' hp e' hM'=>⟨hg _ (e.trans e'),?_⟩
  have:ar rs++[D.ref p]=ar (rs++[p]):=by unfold ar;rw[List.map_append];rfl
  rw[this];refine yl hc hg he hset h0 ts (dn++[t]) (rs++[p]) _ M' (e.trans e') ?_ (by simpa using q);exact bd (h.ext (bu e')) (.cons (Kh (e a _ h0) hp hM') .nil)
variable {ds : List D} {M : MH} {Q : DK} {j l : Nat}
theorem yH(hO:∀f∈kM,cn.O S f)(f0:cn.F.getD 0 (fun _ _ _=>False)=ji)(f1:cn.F.getD 1 (fun _ _ _=>False)=er c)(f2:cn.F.getD 2 (fun _ _ _=>False)=jh)(f3:cn.F.getD 3 (fun _ _ _=>False)=va c)(f4:cn.F.getD 4 (fun _ _ _=>False)=rO)(f5:cn.F.getD 5 (fun _ _ _=>False)=cO)
  (gj:cn.G.getD j .non=.int 120) (gl:cn.G.getD l .non=.int 400) (h:eL c S ds M Q):wSs cn (et j l) (fin Q) (ag ["", "", "", "", ""] ds) M:=by
 obtain⟨a,m,pr,rds,rows,rfl,ha,hpr,hR,ok,q⟩:=h;show wSs cn (et j l) (fin Q) [some (.ref a),some (.int (m:Int)),some (.ref pr),none,none] M;have okm:=ok.most;have okn:=ok.few;have hrl:rds.length=rows.length:=kB hR;unfold et;simp_all! only[List.set,tyD,hpr,f5,gj,gl];refine⟨(m:Int),120+1,rfl,?_⟩;have h1:decide (0<=(m:Int))=true:=decide_eq_true (by omega);have h2:decide ((m:Int)<120+1)=true:=decide_eq_true (by omega);simp only[h1,h2,Bool.and_self,Bool.not_true,aM,aU];refine⟨by decide,?_⟩;simp only[hpr,me,Bool.not_true,aM];have b2:decide ((400:Int)<(rds.length:Int))=false:=decide_eq_false (by omega);simp only[b2,aM];unfold fE;simp_all! only[List.set,hpr];have rest:∀(v3 v4:Option D) (M1:MH),Ext M M1->wSs cn ca (fin Q) [some (.ref a),some (.int (m:Int)),some (.ref pr),v3,v4] M1:=by
  intro v3 v4 M1 e1;have ha1:=e1 _ _ ha;have R1:aL (hid a M1) rds rows:=(hR.ext e1).hid ha1;have hpr1:hid a M1 pr=some (.lst rds):=iQ ha1 (e1 _ _ hpr);have x1:Ext (hid a M) (hid a M1):=bu e1;unfold ca;simp_all! only[List.set,ha1,pf0];refine⟨⟨hO _ (by decide +kernel),by decide⟩,?_⟩;have ha2:updM M1 a (MO.ins S (sF1 (.int (m:Int)))) a=some (.ins S (sF1 (.int (m:Int)))):=ab;have hh:=eJ a M1 (MO.ins S (sF1 (.int (m:Int))));generalize updM M1 a (MO.ins S (sF1 (.int (m:Int))))=M2 at *;rw[←hh] at R1 hpr1 x1;clear hh ha1 e1;clear M1;have hpr2:=cR a M2 _ _ hpr1
  -- heads
  unfold fD;simp_all! only[List.set,List.cons_append,List.nil_append,List.replicate,hpr2];refine fW (f:=fun d=>match d with | .tup (h::_)=>h | _=>.non) (ok:=fun σ=>∃v,σ=[some (.ref a),some (.int (m:Int)),some (.ref pr),v3,v4,v]) [] _ ⟨none,rfl⟩ ?_ ?_
  ·intro d hd σ acc rst ⟨v,hv⟩ k
   subst hv;obtain⟨i,hi⟩:=List.getElem?_of_mem hd;obtain⟨x,-,q1,rfl,-⟩:=d5 R1 hi;rw[aQ];simp_all! only[List.set,at0];exact⟨hpr2,k _ ⟨_,rfl⟩⟩
  intro p hp;have heads:=Ie R1;rw[heads];have e3:=Ext.new (o:=MO.lst (nats (aJ rows))) hp;have g3:updM M2 p (MO.lst (nats (aJ rows))) p=some (.lst (nats (aJ rows))):=ab;generalize updM M2 p (MO.lst (nats (aJ rows)))=M3 at *;have ha3:=e3 _ _ ha2;simp only[g3,rdL,ha3,pf1];refine⟨⟨hO _ (by decide +kernel),(by decide:(1:Nat)<1000)⟩,?_⟩;have x3:Ext (hid a M) (hid a M3):=x1.trans (bu e3);have R3:=R1.ext (bu (a:=a) e3);have hpr3:=bu (a:=a) e3 _ _ hpr1;clear R1 hpr1 x1 ha2 e3 g3 hpr2 hp heads;clear M2;have ha4:updM M3 a (MO.ins S (sF2 (.int (m:Int)) (.tup (nats (aJ rows))))) a=some (.ins S (sF2 (.int (m:Int)) (.tup (nats (aJ rows))))):=ab;have hh:=eJ a M3 (MO.ins S (sF2 (.int (m:Int)) (.tup (nats (aJ rows)))));generalize updM M3 a (MO.ins S (sF2 (.int (m:Int)) (.tup (nats (aJ rows)))))=M4 at *;rw[←hh] at R3 hpr3 x3;clear hh ha3;clear M3;have hpr4:=cR a M4 _ _ hpr3
  -- conds
  unfold fB;simp_all! only[List.set,List.cons_append,List.nil_append,List.replicate,hpr4];have hm:∀(x:Row) (q1:Addr) (M5:MH) (K:DK),M5 a=some (.ins S (sF2 (.int (m:Int)) (.tup (nats (aJ rows)))))->M5 q1=some (.lst (x.2.map CT.told))->(∀rs M6,Ext M5 M6->cy c (hid a M6) rs x.2->K (.tup (ar rs)) M6) ->
    wE cn (.bi .tuple (.cons (.comp 1 (.fn 3 (.cons (.var 6) .nil)) (.nm 6) (.seq (.ix (.var 5) (.int 1))) .no) .nil)) [some (.ref a),some (.int (m:Int)),some (.ref pr),v3,v4,some (.tup [.int (x.1:Int),.ref q1])] M5 K:=by
   intro x q1 M5 K ha5 hq1 k;simp_all! only[List.set,List.cons_append,List.nil_append,List.replicate,at1,hq1,f3];refine yl (c:=c) (S:=S) (a:=a) (M0:=M5) (i:=6) (σ0:=[some (.ref a),some (.int (m:Int)),some (.ref pr),v3,v4,some (.tup [.int (x.1:Int),.ref q1]),none]) (fun _ _ _ h=>h) (fun M6 e6=>e6 _ _ hq1) ?_ (fun _ _=>rfl) ha5 x.2 [] [] none M5 (Ext.refl M5) .nil ?_
   ·intro t M6 K2 k2
    exact⟨t,rfl,k2⟩
   ·intro rs M6 e6 hc6 p hp
    rw[ab];exact k rs _ (e6.then hp) (hc6.ext (bu (Ext.new hp)))
  have conds:∀(F:List D->MH->Prop) (xs:List D) (rrs dn:List Row) (crs:List (List Addr)) (v:Option D) (M5:MH),aL (hid a M4) xs rrs->Ext M4 M5->iI c (hid a M5) crs dn->(∀crs' M6,Ext M4 M6->iI c (hid a M6) crs' (dn++rrs)->F (aS crs') M6) ->
    aQ (fun M'=>M' pr=some (.lst rds)) (.nm 5) (wTo cn .no) (wE cn (.bi .tuple (.cons (.comp 1 (.fn 3 (.cons (.var 6) .nil)) (.nm 6) (.seq (.ix (.var 5) (.int 1))) .no) .nil))) F xs (aS crs) [some (.ref a),some (.int (m:Int)),some (.ref pr),v3,v4,v] M5:=by
   intro F xs rrs dn crs v M5 hp;induction hp generalizing dn crs v M5 with
   |nil=>
    intro e5 h5 k;rw[aQ];rw[List.append_nil] at k;exact k crs M5 e5 h5
   |@cons d x xs rrs hd _ ih=>
    intro e5 h5 k;obtain⟨q1,rfl,hq1⟩:=hd;rw[aQ];refine hm x q1 M5 _ (e5 _ _ ha4) (e5 _ _ (cR a M4 _ _ hq1)) fun rs M6 e6 hc6=>⟨(e5.trans e6) _ _ hpr4,?_⟩
    have:aS crs++[D.tup (ar rs)]=aS (crs++[rs]):=by unfold aS;rw[List.map_append];rfl
    rw[this];refine ih (dn++[x]) (crs++[rs]) _ M6 (e5.trans e6) (bd (h5.ext (bu e6)) (.cons hc6 .nil)) (by simpa using k)
  refine conds _ rds rows [] [] none M4 R3 (Ext.refl M4) .nil ?_;clear conds hm;intro crs M5 e5 hc5 p hp;rw[List.nil_append] at hc5;have e6:=Ext.new (o:=MO.lst (aS crs)) hp;have g6:updM M5 p (MO.lst (aS crs)) p=some (.lst (aS crs)):=ab;generalize updM M5 p (MO.lst (aS crs))=M6 at *;have ha6:=(e5.trans e6) _ _ ha4;simp only[g6,rdL,ha6,pf2];refine⟨⟨hO _ (by decide +kernel),(by decide:(2:Nat)<1000)⟩,?_⟩;have x6:Ext (hid a M) (hid a M6):=x3.trans (bu (e5.trans e6));have C6:=hc5.ext (bu (a:=a) e6);clear R3 hpr3 x3 ha4 e5 hc5 hp e6 g6 hpr4;clear M4 M5;have ha7:updM M6 a (MO.ins S (sF3 (.int (m:Int)) (.tup (nats (aJ rows))) (.tup (aS crs)))) a=some (.ins S (sF3 (.int (m:Int)) (.tup (nats (aJ rows))) (.tup (aS crs)))):=ab;have hh:=eJ a M6 (MO.ins S (sF3 (.int (m:Int)) (.tup (nats (aJ rows))) (.tup (aS crs))));generalize updM M6 a (MO.ins S (sF3 (.int (m:Int)) (.tup (nats (aJ rows))) (.tup (aS crs))))=M7 at *;rw[←hh] at C6 x6;clear hh ha6;clear M6
  -- headed
  unfold fA;simp_all! only[List.set,ha7,lf2,f2];have hlh:(aJ rows).length=rows.length:=by unfold aJ;rw[List.length_map]
  refine⟨hO _ (by decide +kernel),m,aJ rows,rfl,by omega,by omega,?_,?_⟩
  ·intro h hh
   obtain⟨x,hx,rfl⟩:=List.mem_map.1 hh;exact(ok.fit x hx).1
  intro p1 ps1 M8 hp1 e8 g8 l8 s8;rw[hlh] at s8;have ha8:=e8 _ _ ha7;simp only[ha8,pf3];refine⟨⟨hO _ (by decide +kernel),(by decide:(3:Nat)<1000)⟩,?_⟩;have x8:Ext (hid a M) (hid a M8):=x6.trans (bu e8);have C8:=C6.ext (bu (a:=a) e8);have G8:hid a M8 p1=some (.lst (ar ps1)):=iQ ha8 g8;have S8:bR (hid a M8) ps1 (fun f=>.lst (nats (cI (aJ rows) rows.length f))):=fun f r hr=>iQ ha8 (s8 f r hr)
  clear C6 x6 ha7 hp1 e8 g8 s8;clear M7;have ha9:updM M8 a (MO.ins S (sF4 (.int (m:Int)) (.tup (nats (aJ rows))) (.tup (aS crs)) (.ref p1))) a=some (.ins S (sF4 (.int (m:Int)) (.tup (nats (aJ rows))) (.tup (aS crs)) (.ref p1))):=ab;have hh:=eJ a M8 (MO.ins S (sF4 (.int (m:Int)) (.tup (nats (aJ rows))) (.tup (aS crs)) (.ref p1)));generalize updM M8 a (MO.ins S (sF4 (.int (m:Int)) (.tup (nats (aJ rows))) (.tup (aS crs)) (.ref p1)))=M9 at *;rw[←hh] at C8 x8 G8 S8;clear hh ha8;clear M8
  -- leanings
  unfold fw;simp_all! only[List.set,List.cons_append,List.nil_append,List.replicate,ha9,lf3];refine⟨hO _ (by decide +kernel),?_⟩;have lean:∀(F:List D->MH->Prop) (cs:List (List Addr)) (rrs dn:List Row) (ps:List Addr) (v:Option D) (M10:MH),iI c (hid a M9) cs rrs->(∀x∈rrs,x.1<m/\x.2.length<=6/\∀t∈x.2,t.fit (m:Int))->Ext M9 M10->rQ M10 ps dn->(∀ps' M11,Ext M9 M11->rQ M11 ps' (dn++rrs)->F (ar ps') M11) ->
    aQ (fun _=>True) (.nm 5) (wTo cn .no) (wE cn (.fn 1 (.cons (.var 5) .nil))) F (aS cs) (ar ps) [some (.ref a),some (.int (m:Int)),some (.ref pr),v3,v4,v] M10:=by
   intro F cs rrs dn ps v M10 hp;induction hp generalizing dn ps v M10 with
   |nil=>
    intro _ e10 h10 k;rw[show aS []=[] from rfl,aQ];rw[List.append_nil] at k;exact k ps M10 e10 h10
   |@cons rs x cs rrs hd _ ih=>
    intro hf e10 h10 k;obtain⟨hx1,hx2,hx3⟩:=hf x (.head _);rw[show aS (rs::cs)=.tup (ar rs)::aS cs from rfl,aQ];have go:er c [.tup (ar rs)] M10 (fun y M2=>True/\aQ (fun _=>True) (.nm 5) (wTo cn .no) (wE cn (.fn 1 (.cons (.var 5) .nil))) F (aS cs) (ar ps++[y]) [some (.ref a),some (.int (m:Int)),some (.ref pr),v3,v4,some (.tup (ar rs))] M2):=by
     refine⟨rs,x.2,rfl,(hd.ext (cR a M9)).ext e10,fun t ht=>CT.fit_ok (by omega) (hx3 t ht),hx2,fun p M11 hp e11 g11=>⟨trivial,?_⟩⟩;have:ar ps++[D.ref p]=ar (ps++[p]):=by unfold ar;rw[List.map_append];rfl
     rw[this];refine ih (dn++[x]) (ps++[p]) _ M11 (fun y hy=>hf y (.tail _ hy)) (e10.trans e11) ⟨by rw[List.length_append,List.length_append,h10.1];rfl,fun k r y hr hy=>?_⟩ (by simpa using k);by_cases hk:k<ps.length
     ·rw[List.getElem?_append_left hk] at hr
      rw[List.getElem?_append_left (by rw[←h10.1];exact hk)] at hy;exact e11 _ _ (h10.2 k r y hr hy)
     ·rw[List.getElem?_append_right (by omega)] at hr
      rw[List.getElem?_append_right (by rw[←h10.1];omega),←h10.1] at hy;have hz:k-ps.length=0:=by
       have:=(List.getElem?_eq_some_iff.mp hr).1
       simp only[List.length_cons,List.length_nil] at this;omega
      rw[hz,List.getElem?_cons_zero] at hr hy;cases hr;cases hy;rw[g11,ET];rfl
    rw[←f1] at go;exact go
  refine lean _ crs rows [] [] none M9 C8 ok.fit (Ext.refl M9) ⟨rfl,fun k r x hr=>by simp at hr⟩ ?_;clear lean;intro ps2 M10 e10 L10 p2 hp2;rw[List.nil_append] at L10;have e11:=Ext.new (o:=MO.lst (ar ps2)) hp2;have g11:updM M10 p2 (MO.lst (ar ps2)) p2=some (.lst (ar ps2)):=ab;generalize updM M10 p2 (MO.lst (ar ps2))=M11 at *;have ha11:=(e10.trans e11) _ _ ha9;simp only[ha11,pf4];refine⟨⟨hO _ (by decide +kernel),(by decide:(4:Nat)<1000)⟩,?_⟩;have x11:Ext (hid a M) (hid a M11):=x8.trans (bu (e10.trans e11));have C11:=C8.ext (bu (a:=a) (e10.trans e11));have G11:=bu (a:=a) (e10.trans e11) _ _ G8;have S11:=S8.ext (bu (a:=a) (e10.trans e11));have H11:hid a M11 p2=some (.lst (ar ps2)):=iQ ha11 g11;have L11:rQ (hid a M11) ps2 rows:=⟨L10.1,fun k r x hr hx=>iQ ha11 (e11 _ _ (L10.2 k r x hr hx))⟩;clear C8 x8 ha9 hp2 e10 L10 e11 g11 G8 S8;clear M9 M10;have ha12:updM M11 a (MO.ins S (sF5 (.int (m:Int)) (.tup (nats (aJ rows))) (.tup (aS crs)) (.ref p1) (.ref p2))) a=some (.ins S (sF5 (.int (m:Int)) (.tup (nats (aJ rows))) (.tup (aS crs)) (.ref p1) (.ref p2))):=ab;have hh:=eJ a M11 (MO.ins S (sF5 (.int (m:Int)) (.tup (nats (aJ rows))) (.tup (aS crs)) (.ref p1) (.ref p2)));generalize updM M11 a (MO.ins S (sF5 (.int (m:Int)) (.tup (nats (aJ rows))) (.tup (aS crs)) (.ref p1) (.ref p2)))=M12 at *;rw[←hh] at C11 x11 G11 S11 H11 L11;clear hh ha11;clear M11
  -- helped
  unfold fu;simp_all! only[List.set,ha12,lf4,f0];refine⟨hO _ (by decide +kernel),m,p2,ps2,rows.map b0,rfl,cR a M12 _ _ H11,by rw[List.length_map];exact L11.1,?_,by omega,by rw[List.length_map];omega,?_,?_⟩
  ·intro k r l hr hl
   rw[List.getElem?_map] at hl;obtain⟨x,hx,rfl⟩:=Option.map_eq_some_iff.1 hl;exact cR a M12 _ _ (L11.2 k r x hr hx)
  ·intro l hl x hx
   obtain⟨y,hy,rfl⟩:=List.mem_map.1 hl;obtain⟨t,ht,hxt⟩:=List.mem_flatMap.1 hx;exact yk ((ok.fit y hy).2.2 t ht) x hxt
  intro p3 ps3 M13 hp3 e13 g13 l13 s13;rw[List.length_map] at s13;have ha13:=e13 _ _ ha12;simp only[ha13,pf5];refine⟨⟨hO _ (by decide +kernel),(by decide:(5:Nat)<1000)⟩,?_⟩;have hh:=eJ a M13 (MO.ins S (sF6 (.int (m:Int)) (.tup (nats (aJ rows))) (.tup (aS crs)) (.ref p1) (.ref p2) (.ref p3)));have he:=bu (a:=a) e13;have hl:=cR a (updM M13 a (MO.ins S (sF6 (.int (m:Int)) (.tup (nats (aJ rows))) (.tup (aS crs)) (.ref p1) (.ref p2) (.ref p3))));rw[hh] at hl;have ee:=he.trans hl;refine q _ ?_ ⟨ok,crs,p1,p2,p3,ps1,ps2,ps3,ab,C11.ext ee,⟨ee _ _ G11,l8,S11.ext ee⟩,⟨ee _ _ H11,L11.1,fun k r x hr hx=>ee _ _ (L11.2 k r x hr hx)⟩,hl _ _ (iQ ha13 g13),l13,fun f r hr=>hl _ _ (iQ ha13 (s13 f r hr))⟩;intro b o hb hMb;refine ee b o (x11 b o ?_);rw[qr hb];exact hMb
 have step:∀(E:EndsD) (v0 v2:Option D) (v3 v4:Option D) (M1:MH) (x:Row) (q1:Addr),(x.1<m/\x.2.length<=6/\∀t∈x.2,t.fit (m:Int))->M1 q1=some (.lst (x.2.map CT.told))->(∀M2,Ext M1 M2->E.nx [v0,some (.int (m:Int)),v2,v3,some (.tup [.int (x.1:Int),.ref q1])] M2) ->
   wSs cn cb E [v0,some (.int (m:Int)),v2,v3,some (.tup [.int (x.1:Int),.ref q1])] M1:=by
  intro E v0 v2 v3 v4 M1 x q1 ⟨hx1,hx2,hx3⟩ hq k;unfold cb;simp_all! only[List.set,f4];exact⟨(x.1:Int),(m:Int),q1,x.2,rfl,hq,⟨by omega,by omega⟩,hx2,hx3,fun M2 e2=>k M2 e2⟩
 have key:∀(xs:List D) (rrs:List Row) (k:Int) (v3 v4:Option D) (M1:MH),aL M xs rrs->(∀x∈rrs,x.1<m/\x.2.length<=6/\∀t∈x.2,t.fit (m:Int))->Ext M M1 ->
   az (fun M'=>M' pr=some (.lst rds)) (.tp [3,4]) (wSs cn cb) { nx:=wSs cn ca (fin Q),rt:=Q } (bZ k xs) [some (.ref a),some (.int (m:Int)),some (.ref pr),v3,v4] M1:=by
  intro xs rrs k v3 v4 M1 hp;induction hp generalizing k v3 v4 M1 with
  |nil=>
   intro _ e1;rw[bZ,az];exact rest v3 v4 M1 e1
  |@cons d x xs rrs hd _ ih=>
   intro hf e1;obtain⟨q1,rfl,hq1⟩:=hd;obtain⟨hx1,hx2,hx3⟩:=hf x (.head _);rw[bZ,az];refine⟨rfl,step _ _ _ _ none M1 x q1 ⟨hx1,hx2,hx3⟩ (e1 _ _ hq1) fun M2 e2=>?_⟩;exact⟨(e1.trans e2) pr _ hpr,ih _ _ _ M2 (fun y hy=>hf y (.tail _ hy)) (e1.trans e2)⟩
 exact key rds rows 0 none none M hR ok.fit (Ext.refl M)
end
end SH
namespace SH
open PySem L2 DD
theorem Ig(n:Nat)(f:Int):hasB (n:Int) f=n.testBit f.toNat:=fY n f.toNat▸(by unfold hasB bitZ;rw[Int.toNat_natCast])
def Sub(a b:Nat):Prop:=∀f,a.testBit f=true->b.testBit f=true
theorem Sub.refl(a:Nat):Sub a a:=fun _ h=>h
theorem Sub.trans{a b c:Nat}(h:Sub a b)(g:Sub b c):Sub a c:=fun f q=>g f (h f q)
theorem Sub.or_l(a b:Nat):Sub a (a|||b):=fun f h=>by rw[Nat.testBit_or,h];rfl
theorem Sub.or{a b c:Nat}(h:Sub a c)(g:Sub b c):Sub (a|||b) c:=fun f q=>by
 rw[Nat.testBit_or,Bool.or_eq_true] at q;exact q.elim (h f) (g f)
theorem Sub.hasB{a b:Nat}(h:Sub a b){f:Int}(q:SH.hasB (a:Int) f=true):SH.hasB (b:Int) f=true:=by
 rw[Ig] at q ⊢;exact h _ q
theorem GB{p q:Int->Bool}(h:∀f,p f=true->q f=true):∀fs:List Int,(fs.filter p).length<=(fs.filter q).length
 |[]=>Nat.le_refl _
 |f::fs=>by
  have ih:=GB h fs;rw[List.filter_cons,List.filter_cons];by_cases e:p f=true
  ·rw[if_pos e,if_pos (h f e),List.length_cons,List.length_cons];omega
  ·rw[if_neg e]
   split
   ·rw[List.length_cons];omega
   ·exact ih
theorem Ay{p q:Int->Bool}:∀{fs:List Int},(fs.filter p).length<(fs.filter q).length->∃f∈fs,p f=false/\q f=true
 |[],h=>absurd h (Nat.lt_irrefl _)
 |f::fs,h=>by
  by_cases e:p f=false/\q f=true
  ·exact⟨f,.head _,e⟩
  ·rw[List.filter_cons,List.filter_cons] at h
   have:(fs.filter p).length<(fs.filter q).length:=by
    cases hp:p f with
    |true=>
     rw[if_pos hp] at h;split at h
     ·simpa using h
     ·rw[List.length_cons] at h;omega
    |false=>
     have hq:q f=false:=by
      cases hq:q f with
      |false=>rfl
      |true=>exact absurd ⟨hp,hq⟩ e
     rw[if_neg (by simp[hp]),if_neg (by simp[hq])] at h;exact h
   obtain⟨g,hg,w⟩:=Ay this;exact⟨g,.tail _ hg,w⟩
theorem ym{a b:Nat}(h:Sub a b)(fs:List Int):cntB fs (a:Int)<=cntB fs (b:Int):=by
 unfold cntB;exact GB (fun f q=>h.hasB q) fs
theorem Az{h h' g:Nat}(s:Sub h h'){t:CT}(q:t.carried (h:Int) (g:Int)=true):t.carried (h':Int) (g:Int)=true:=by
 cases t with
 |hav f=>exact s.hasB q
 |lck f=>exact q
 |som n fs=>
  have q:decide (n<=((cntB fs (h:Int):Nat):Int))=true:=q;show decide (n<=((cntB fs (h':Int):Nat):Int))=true
  have:=of_decide_eq_true q
  have:=ym s fs
  exact decide_eq_true (by omega)
 |led fs k=>
  have q:(hasB (h:Int) (fs.getD k 0)&&(((cntB (fs.take k) (g:Int):Nat):Int)==0))=true:=q;show(hasB (h':Int) (fs.getD k 0)&&(((cntB (fs.take k) (g:Int):Nat):Int)==0))=true;rw[Bool.and_eq_true] at q ⊢;exact⟨s.hasB q.1,q.2⟩
theorem AA{h g g':Nat}(s:Sub g g'){t:CT}(q:t.carried (h:Int) (g':Int)=true):t.carried (h:Int) (g:Int)=true:=by
 cases t with
 |hav f=>exact q
 |lck f=>
  have q:(!hasB (g':Int) f)=true:=q;show(!hasB (g:Int) f)=true;cases e:hasB (g:Int) f with
  |false=>rfl
  |true=>rw[s.hasB e] at q;exact q
 |som n fs=>exact q
 |led fs k=>
  have q:(hasB (h:Int) (fs.getD k 0)&&(((cntB (fs.take k) (g':Int):Nat):Int)==0))=true:=q;show(hasB (h:Int) (fs.getD k 0)&&(((cntB (fs.take k) (g:Int):Nat):Int)==0))=true;rw[Bool.and_eq_true] at q ⊢;refine⟨q.1,?_⟩;have h1:=q.2;have h2:=ym s (fs.take k);rw[beq_iff_eq] at h1 ⊢;omega
theorem AB{h h' g:Nat}{t:CT}(q:t.carried (h:Int) (g:Int)=false)(q':t.carried (h':Int) (g:Int)=true):∃f,(false,f)∈t.leanP/\hasB (h:Int) f=false/\hasB (h':Int) f=true:=by
 cases t with
 |hav f=>exact⟨f,by simp[CT.leanP],q,q'⟩
 |lck f=>
  have q:(!hasB (g:Int) f)=false:=q;have q':(!hasB (g:Int) f)=true:=q';rw[q] at q';cases q'
 |som n fs=>
  have q:decide (n<=((cntB fs (h:Int):Nat):Int))=false:=q;have q':decide (n<=((cntB fs (h':Int):Nat):Int))=true:=q';have h1:=of_decide_eq_false q;have h2:=of_decide_eq_true q';have:(fs.filter (hasB (h:Int))).length<(fs.filter (hasB (h':Int))).length:=by
   unfold cntB at h1 h2;omega
  obtain⟨f,hf,w⟩:=Ay this;exact⟨f,List.mem_map.2 ⟨f,hf,rfl⟩,w⟩
 |led fs k=>
  have q:(hasB (h:Int) (fs.getD k 0)&&(((cntB (fs.take k) (g:Int):Nat):Int)==0))=false:=q;have q':(hasB (h':Int) (fs.getD k 0)&&(((cntB (fs.take k) (g:Int):Nat):Int)==0))=true:=q';rw[Bool.and_eq_true] at q';rw[q'.2,Bool.and_true] at q;exact⟨_,List.mem_append.2 (.inr (.head _)),q,q'.1⟩
def a9(h g:Nat)(x:Row):Bool:=x.2.all (CT.carried (h:Int) (g:Int))
theorem ke{h h' g:Nat}(s:Sub h h'){x:Row}(q:a9 h g x=true):a9 h' g x=true:=by
 unfold a9 at q ⊢;rw[List.all_eq_true] at q ⊢;exact fun t ht=>Az s (q t ht)
theorem ng{h g g':Nat}(s:Sub g g'){x:Row}(q:a9 h g' x=true):a9 h g x=true:=by
 unfold a9 at q ⊢;rw[List.all_eq_true] at q ⊢;exact fun t ht=>AA s (q t ht)
theorem Cr{h h' g:Nat}{x:Row}(q:a9 h g x=false)(q':a9 h' g x=true):∃f,(false,f)∈b0 x/\hasB (h:Int) f=false/\hasB (h':Int) f=true:=by
 unfold a9 at q q';rw[List.all_eq_true] at q';rw[List.all_eq_false] at q;obtain⟨t,ht,hq⟩:=q;obtain⟨f,hf,w⟩:=AB (by simpa using hq) (q' t ht);exact⟨f,List.mem_flatMap.2 ⟨t,ht,hf⟩,w⟩
def vg(rows:List Row)(told g s:Nat):Prop:=Sub told s/\∀x∈rows,a9 s g x=true->s.testBit x.1=true
def aF(rows:List Row)(told g n:Nat):Prop:=vg rows told g n/\∀s,vg rows told g s->Sub n s
theorem aF.anti{rows:List Row}{told g g' n n':Nat}(s:Sub g g')(h:aF rows told g n)(h':aF rows told g' n'):Sub n' n:=
 h'.2 n ⟨h.1.1,fun x hx q=>h.1.2 x hx (ng s q)⟩
def hits(rows:List Row)(h g f r:Nat):Bool:=match rows[r]? with
 |some x=>decide (x.1=f)&&a9 h g x
 |none=>false
theorem jV{rows:List Row}{h g f r:Nat}:hits rows h g f r=true ↔ ∃x,rows[r]?=some x/\x.1=f/\a9 h g x=true:=by
 unfold hits;cases e:rows[r]? with
 |none=>simp
 |some x=>simp
def bv(rows:List Row)(h g f:Nat):Option Nat:=(List.range rows.length).find? (hits rows h g f)
def ay(rows:List Row)(h g left:Nat):List (Nat×Nat):=(memb left).filterMap fun f=>(bv rows h g f).map fun r=>(f,r)
def newB(fr:List (Nat×Nat)):Nat:=setN (fr.map (·.1))
def bS(rows:List Row)(g:Nat):Nat->Nat->Nat->Nat->List (Nat×Nat×Nat)
 |0,_,_,_=>[]
 |k+1,step,come,left=>if ay rows come g left=[] then[] else(ay rows come g left).map (fun x=>(x.1,step,x.2))++bS rows g k (step+1) (come|||newB (ay rows come g left)) (ac left (newB (ay rows come g left)))
theorem nh{rows:List Row}{h g f:Nat}(q:bv rows h g f=none){x:Row}(hx:x∈rows)(hf:x.1=f):a9 h g x=false:=by
 obtain⟨r,hr⟩:=List.getElem?_of_mem hx;have hl:r<rows.length:=(List.getElem?_eq_some_iff.mp hr).1;unfold bv at q;rw[List.find?_eq_none] at q
 have:=q r (List.mem_range.2 hl)
 rw[jV] at this;cases e:a9 h g x with
 |false=>rfl
 |true=>exact absurd ⟨x,hr,hf,e⟩ this
theorem sN{rows:List Row}{h g f r:Nat}(q:bv rows h g f=some r):∃x,rows[r]?=some x/\x.1=f/\a9 h g x=true:=
 jV.1 (List.find?_some q)
theorem cT{rows:List Row}{h g left f r:Nat}:(f,r)∈ay rows h g left↔left.testBit f=true/\bv rows h g f=some r:=by
 unfold ay;rw[List.mem_filterMap];constructor
 ·rintro⟨f',hf',q⟩
  obtain⟨r',hr',e⟩:=Option.map_eq_some_iff.1 q;cases e;exact⟨(br _ _).1 hf',hr'⟩
 ·rintro⟨a,b⟩
  exact⟨f,(br _ _).2 a,by rw[b];rfl⟩
theorem tX{fr:List (Nat×Nat)}{f:Nat}:(newB fr).testBit f=true ↔ ∃r,(f,r)∈fr:=by
 unfold newB;rw[bq,decide_eq_true_eq,List.mem_map];constructor
 ·rintro⟨⟨a,b⟩,h,rfl⟩;exact⟨b,h⟩
 ·rintro⟨r,h⟩;exact⟨_,h,rfl⟩
theorem GC{a b f:Nat}(h1:a.testBit f=true)(h2:b.testBit f=true):ac a b<a:=by
 have:=dR a b
 have h3:a&&&b≠0:=fun z=>by
  have:(a&&&b).testBit f=true:=by rw[Nat.testBit_and,h1,h2];rfl
  rw[z,Nat.zero_testBit] at this;cases this
 omega
theorem oF{rows:List Row}{h g left:Nat}(q:ay rows h g left≠[]):ac left (newB (ay rows h g left))<left:=by
 obtain⟨⟨f,r⟩,hx⟩:=List.exists_mem_of_ne_nil _ q;exact GC (cT.1 hx).1 (tX.2 ⟨r,hx⟩)
def cv(rows:List Row)(g told heads:Nat):Nat:=told|||setN ((bS rows g (ac heads told+1) 1 told (ac heads told)).map (·.1))
theorem vh{rows:List Row}{g told heads:Nat}(hh:∀x∈rows,heads.testBit x.1=true):∀(k step come left:Nat),left<k->(∀f,left.testBit f=(heads.testBit f && !come.testBit f))->Sub told come->(∀s,vg rows told g s->Sub come s) ->
  aF rows told g (come|||setN ((bS rows g k step come left).map (·.1)))
 |0,_,_,_,h,_,_,_=>absurd h (Nat.not_lt_zero _)
 |k+1,step,come,left,hk,hl,ht,hc=>by
  rw[bS];by_cases e:ay rows come g left=[]
  ·rw[if_pos e]
   have z:come|||setN (([]:List (Nat×Nat×Nat)).map (·.1))=come:=by simp[setN]
   rw[z];refine⟨⟨ht,fun x hx q=>?_⟩,hc⟩;cases b:come.testBit x.1 with
   |true=>rfl
   |false=>
    have h1:left.testBit x.1=true:=by rw[hl,hh x hx,b];rfl
    cases f1:bv rows come g x.1 with
    |none=>rw[nh f1 hx rfl] at q;cases q
    |some r=>
     have:=cT.2 ⟨h1,f1⟩
     rw[e] at this;cases this
  ·rw[if_neg e]
   have ih:=vh (g:=g) (told:=told) hh k (step+1) (come|||newB (ay rows come g left)) (ac left (newB (ay rows come g left))) (by have:=oF e;omega) ?_ (ht.trans (Sub.or_l _ _)) ?_
   ·refine cast (congrArg (aF rows told g) ?_) ih
    refine Nat.eq_of_testBit_eq fun f=>?_
    rw[Nat.testBit_or,Nat.testBit_or,Nat.testBit_or,bq,bq,List.map_append,List.map_map];have z:(newB (ay rows come g left)).testBit f=decide (f∈(ay rows come g left).map ((·.1)∘fun(x:Nat×Nat)=>(x.1,step,x.2))):=by
     unfold newB;rw[bq];rfl
    rw[z,Bool.or_assoc];congr 1;rw[←Bool.decide_or];simp only[List.mem_append]
   ·intro f
    rw[aN,hl,Nat.testBit_or];cases heads.testBit f<;>cases come.testBit f<;>cases(newB (ay rows come g left)).testBit f<;>rfl
   ·intro s hs
    refine(hc s hs).or fun f hf=>?_
    obtain⟨r,hr⟩:=tX.1 hf;obtain⟨x,hx,rfl,hq⟩:=sN (cT.1 hr).2;exact hs.2 x (List.mem_of_getElem? hx) (ke (hc s hs) hq)
theorem cU{rows:List Row}{g told heads:Nat}(hh:∀x∈rows,heads.testBit x.1=true):aF rows told g (cv rows g told heads):=
 vh hh _ 1 told _ (Nat.lt_succ_self _) (fun f=>aN _ _ _) (Sub.refl _) fun s hs=>hs.1
theorem oG:∀{l m:List Nat},l.Pairwise (· < ·)->m.Pairwise (· < ·)->(∀x,x∈l↔x∈m)->l=m
 |[],[],_,_,_=>rfl
 |[],b::m,_,_,h=>absurd ((h b).2 (.head _)) (by simp)
 |a::l,[],_,_,h=>absurd ((h a).1 (.head _)) (by simp)
 |a::l,b::m,hl,hm,h=>by
  rw[List.pairwise_cons] at hl hm;have e:a=b:=by
   rcases List.mem_cons.1 ((h a).1 (.head _)) with e | e
   ·exact e
   ·rcases List.mem_cons.1 ((h b).2 (.head _)) with e' | e'
    ·exact e'.symm
    ·have:=hl.1 b e';have:=hm.1 a e;omega
  subst e;rw[oG hl.2 hm.2 fun x=>?_];constructor
  ·intro hx
   rcases List.mem_cons.1 ((h x).1 (.tail _ hx)) with e | e
   ·subst e;exact absurd (hl.1 x hx) (Nat.lt_irrefl _)
   ·exact e
  ·intro hx
   rcases List.mem_cons.1 ((h x).2 (.tail _ hx)) with e | e
   ·subst e;exact absurd (hm.1 x hx) (Nat.lt_irrefl _)
   ·exact e
theorem c6:∀{n:Nat}{l:List Nat},l.Nodup->(∀x∈l,x<n)->l.length<=n
 |0,[],_,_=>Nat.le_refl _
 |0,a::l,_,h=>absurd (h a (.head _)) (Nat.not_lt_zero _)
 |n+1,l,hd,h=>by
  have h1:=c6 (n:=n) (l:=l.filter fun x=>decide (x≠n)) (List.Pairwise.filter _ hd) (fun x hx=>by
   have h2:=List.mem_filter.1 hx
   have:=h x h2.1
   have:x≠n:=of_decide_eq_true h2.2
   omega)
  have h2:∀{l:List Nat},l.Nodup->l.length<=(l.filter fun x=>decide (x≠n)).length+1:=by
   intro l hd;induction l with
   |nil=>simp
   |cons a l ih=>
    rw[List.nodup_cons] at hd;rw[List.filter_cons];by_cases e:a=n
    ·subst e
     rw[if_neg (by simp),List.length_cons];have:l.filter (fun x=>decide (x≠a))=l:=List.filter_eq_self.2 fun x hx=>decide_eq_true fun z=>hd.1 (z▸hx)
     rw[this];exact Nat.le_refl _
    ·rw[if_pos (by simpa using e),List.length_cons,List.length_cons]
     have:=ih hd.2
     omega
  have:=h2 hd
  omega
theorem ni{ms:List Int}{xs:List Nat}(hp:ms.Perm (xs.map fun(x:Nat)=>(x:Int)))(hs:ms.Pairwise (·<=·))(hd:xs.Nodup):∃ns:List Nat,ms=ns.map (fun(x:Nat)=>(x:Int))/\ns.Pairwise (· < ·)/\∀r,r∈ns↔r∈xs:=by
 have e0:(ms.map Int.toNat).map (fun(x:Nat)=>(x:Int))=ms:=by
  rw[List.map_map];refine(List.map_congr_left fun a ha=>?_).trans (List.map_id _);obtain⟨x,_,rfl⟩:=List.mem_map.1 (hp.mem_iff.1 ha);simp
 have e1:(ms.map Int.toNat).Perm xs:=by
  have:=hp.map Int.toNat
  rw[List.map_map] at this;refine this.trans ?_;rw[show(Int.toNat∘fun(x:Nat)=>(x:Int))=id by funext x;simp,List.map_id]
 refine⟨ms.map Int.toNat,e0.symm,?_,fun r=>e1.mem_iff⟩;have nd:(ms.map Int.toNat).Nodup:=e1.nodup_iff.2 hd;have le:(ms.map Int.toNat).Pairwise (·<=·):=List.pairwise_map.2 (hs.imp fun h=>by omega);exact List.Pairwise.imp (fun⟨h1,h2⟩=>Nat.lt_of_le_of_ne h1 h2) (List.pairwise_and_iff.2 ⟨le,nd⟩)
end SH
namespace SH
open PySem L2 DD
def mH(c:CA)(S:Addr):SpD:=fun ds M Q=>∃(a:Addr) (m:Nat) (rows:List Row) (left:Nat),ds=[.ref a,.int (left:Int)]/\SheetAt c S M a m rows/\rows.length<64/\left<2 ^ m /\
 ∀p ns M',M p=none->Ext M M'->M' p=some (.lst (nats ns))->ns.Pairwise (· < ·)->(∀r,r∈ns ↔ ∃x,rows[r]?=some x/\left.testBit x.1=true)->Q (.ref p) M'
def gf(c:CA)(S:Addr):SpD:=fun ds M Q=>∃(a:Addr) (m:Nat) (rows:List Row) (b:Addr) (kvs:List (Key×D)) (fs:List Nat) (left:Nat),ds=[.ref a,.ref b,.int (left:Int)]/\SheetAt c S M a m rows/\rows.length<64/\M b=some (.rod kvs)/\keysOf kvs=nats fs/\(∀f∈fs,f<m) /\
 ∀p ns M',M p=none->Ext M M'->M' p=some (.lst (nats ns))->ns.Pairwise (· < ·)->(∀r,r∈ns ↔ ∃x,rows[r]?=some x/\left.testBit x.1=true/\∃f∈fs,a8 (b0 x) f=true)->Q (.ref p) M'
def aZ(fr:List (Nat×Nat)):List (Key×D):=fr.map fun(x:Nat×Nat)=>(.inl (x.1:Int),.int (x.2:Int))
def dE(c:CA)(S:Addr):SpD:=fun ds M Q=>∃(a:Addr) (m:Nat) (rows:List Row) (b:Addr) (ns:List Nat) (h g:Nat),ds=[.ref a,.ref b,.int (h:Int),.int (g:Int)]/\SheetAt c S M a m rows/\M b=some (.lst (nats ns))/\(∀r∈ns,r<rows.length) /\
 ∀p fr M',M p=none->Ext M M'->M' p=some (.dic (aZ fr))->(fr.map (·.1)).Nodup->(∀f r,(f,r)∈fr↔ns.find? (hits rows h g f)=some r)->Q (.ref p) M'
def k7:Ss:=.cons (.ret (.bk .sorted (.cons (.var 2) .nil))) .nil
def k8:Ss:=.cons (.expr (.mt .extend (.var 2) (.cons (.mu "rows_for" (.var 0) (.cons (.var 3) .nil)) .nil))) .nil
def o0:Ss:=.cons (.for (.nm 3) (.seq (.fn 0 (.cons (.var 1) .nil))) k8) k7
def kf:Ss:=.cons (.set 2 (.lst .nil)) o0
def iJ:Ss:=.cons (.ret (.bk .sorted (.cons (.var 3) .nil))) .nil
def dW:Ss:=.cons (.ite (.val (.fn 0 (.cons (.var 2) (.cons (.mu "head_of" (.var 0) (.cons (.var 5) .nil)) .nil)))) (.cons (.putIx (.var 3) (.var 5) (.bl true)) .nil) .nil) .nil
def iK:Ss:=.cons (.for (.nm 5) (.seq (.mu "rows_helped" (.var 0) (.cons (.var 4) .nil))) dW) .nil
def mf:Ss:=.cons (.for (.nm 4) (.seq (.var 1)) iK) iJ
def gx:Ss:=.cons (.set 3 .dnew) mf
def gg:Ss:=.cons (.ret (.var 4)) .nil
def kP:Ss:=.cons (.ite (.and (.cmp .NotIn (.var 6) (.var 4)) (.val (.fn 0 (.cons (.mu "conds_of" (.var 0) (.cons (.var 5) .nil)) (.cons (.var 2) (.cons (.var 3) .nil)))))) (.cons (.putIx (.var 4) (.var 6) (.var 5)) .nil) .nil) .nil
def cV:Ss:=.cons (.set 6 (.mu "head_of" (.var 0) (.cons (.var 5) .nil))) kP
def kQ:Ss:=.cons (.for (.nm 5) (.seq (.var 1)) cV) gg
def dX:Ss:=.cons (.set 4 .dnew) kQ
section
variable {m : Nat} {rows : List Row} {crs : List (List Addr)} {p1 p2 p3 : Addr}
theorem Cs:(gc m rows crs p1 p2 p3).lookup ("rows_for" : Str)=none:=rfl
theorem xh:(gc m rows crs p1 p2 p3).lookup ("rows_helped" : Str)=none:=rfl
theorem vi:(gc m rows crs p1 p2 p3).lookup ("head_of" : Str)=none:=rfl
theorem Ct:(gc m rows crs p1 p2 p3).lookup ("conds_of" : Str)=none:=rfl
theorem sO:(gc m rows crs p1 p2 p3).lookup ("how_many" : Str)=none:=rfl
end
theorem GD(xs:List Nat):j5 (nats xs)=some (xs.map fun(x:Nat)=>(x:Int)):=by
 have:nats xs=intL (xs.map fun(x:Nat)=>(x:Int)):=by unfold nats intL;rw[List.map_map];rfl
 rw[this,qp]
theorem Ih(xs ys:List Nat):nats xs++nats ys=nats (xs++ys):=by unfold nats;rw[List.map_append]
theorem qt(xs:List Nat):(xs.map fun(x:Nat)=>(x:Int)).map D.int=nats xs:=by unfold nats;rw[List.map_map];rfl
theorem iS{hs:List Nat}{k f r:Nat}:r∈cI hs k f↔r<k/\hs[r]?=some f:=by
 unfold cI;rw[List.mem_filter,List.mem_range,decide_eq_true_eq]
theorem Cu(hs:List Nat)(k f:Nat):(cI hs k f).Nodup:=List.Pairwise.filter _ List.nodup_range
theorem oH(hs:List Nat)(k:Nat):∀{dn:List Nat},dn.Nodup->(dn.flatMap (cI hs k)).Nodup
 |[],_=>by simp
 |f::dn,h=>by
  rw[List.nodup_cons] at h;rw[List.flatMap_cons,List.nodup_append];refine⟨Cu hs k f,oH hs k h.2,fun a ha b hb z=>?_⟩;subst z;obtain⟨g,hg,hb⟩:=List.mem_flatMap.1 hb;have h1:=(iS.1 ha).2;have h2:=(iS.1 hb).2;rw[h1] at h2;cases h2;exact h.1 hg
theorem eB{n m f:Nat}(h:n<2 ^ m)(q:n.testBit f=true):f<m:=by
 have h1:=Nat.ge_two_pow_of_testBit q;exact(Nat.pow_lt_pow_iff_right (by decide:1<2)).1 (Nat.lt_of_le_of_lt h1 h)
theorem yn{rows:List Row}{r f:Nat}:(aJ rows)[r]?=some f ↔ ∃x,rows[r]?=some x/\x.1=f:=by
 unfold aJ;rw[List.getElem?_map];cases rows[r]? with
 |none=>simp
 |some x=>simp
theorem AC{m:Nat}{rows:List Row}(h:RowsOk m rows){r:Nat}{x:Row}(e:rows[r]?=some x):x.1<m/\x.2.length<=6/\∀t∈x.2,t.fit (m:Int):=h.fit x (List.mem_of_getElem? e)
section
variable {cn : Cn} {c : CA} {S : Addr} {ds : List D} {M : MH} {Q : DK}
theorem Cv(f0:cn.F.getD 0 (fun _ _ _=>False)=bY)(hT:cn.T S "rows_for" = some (kN c S))(h:mH c S ds M Q):wSs cn kf (fin Q) (ag ["", "", "", ""] ds) M:=by
 obtain⟨a,m,rows,left,rfl,A,hn,hl,q⟩:=h;show wSs cn kf (fin Q) [some (.ref a),some (.int (left:Int)),none,none] M;have hm:=A.ok.most;unfold kf;simp! only[List.set];intro p hp;unfold o0;simp! only[List.set,f0];refine⟨left,rfl,Nat.lt_of_lt_of_le hl (Nat.pow_le_pow_right (by decide) (by omega)),fun p0 M1 hp0 e1 g1=>?_⟩;simp only[g1];have e0:Ext M M1:=(Ext.new hp).trans e1;have hp1:M1 p=some (.lst []):=e1 p _ ab;have hne:p0≠p:=fun z=>by subst z;rw[ab] at hp0;cases hp0
 clear e1;have key:∀(rst dn:List Nat) (v:Option D) (M2:MH),memb left=dn++rst->ExtBut p M1 M2->M2 p=some (.lst (nats (dn.flatMap (cI (aJ rows) rows.length)))) ->
   az (fun M'=>M' p0=some (.lst (nats (memb left)))) (.nm 3) (wSs cn k8) { nx:=wSs cn k7 (fin Q),rt:=Q } (nats rst) [some (.ref a),some (.int (left:Int)),some (.ref p),v] M2:=by
  intro rst;induction rst with
  |nil=>
   intro dn v M2 hd b2 g2;rw[List.append_nil] at hd;subst hd;have nd:=oH (aJ rows) rows.length (oA left);rw[show nats []=[] from rfl,az];unfold k7;simp! only[dBk,lQ,g2,rdL,GD,rH];have hlen:((memb left).flatMap (cI (aJ rows) rows.length)).length<=rows.length:=c6 nd fun x hx=>by
    obtain⟨f,_,hx⟩:=List.mem_flatMap.1 hx;exact(iS.1 hx).1
   refine⟨by rw[List.length_map];omega,fun p2 ms hp2 h1 h2=>?_⟩;obtain⟨ns,rfl,h3,h4⟩:=ni h1 h2 nd;rw[qt];have e2:Ext M M2:=b2.ext e0 hp;refine q p2 ns _ (e2.free hp2) (e2.then hp2) ab h3 fun r=>?_
   rw[h4,List.mem_flatMap];constructor
   ·rintro⟨f,hf,hr⟩
    obtain⟨x,hx,rfl⟩:=yn.1 (iS.1 hr).2;exact⟨x,hx,(br _ _).1 hf⟩
   ·rintro⟨x,hx,hb⟩
    exact⟨x.1,(br _ _).2 hb,iS.2 ⟨(List.getElem?_eq_some_iff.mp hx).1,yn.2 ⟨x,hx,rfl⟩⟩⟩
  |cons f rst ih=>
   intro dn v M2 hd b2 g2;have e2:Ext M M2:=b2.ext e0 hp;obtain⟨ok,crs,p1,p2,p3,ps1,ps2,ps3,h1,-⟩:=A.ext e2;have hf:f<m:=eB hl ((br _ _).1 (by rw[hd];simp));rw[show nats (f::rst)=.int (f:Int)::nats rst from rfl,az];unfold k8;simp! only[List.set,g2,h1,Cs,hT];refine⟨rfl,trivial,a,m,rows,f,rfl,A.ext e2,hf,fun p4 M4 hp4 e4 g4=>?_⟩;simp only[e4 p _ g2,g4,cG,Ih];have nd:(dn.flatMap (cI (aJ rows) rows.length)).Nodup:=oH _ _ (by have:=oA left;rw[hd,List.nodup_append] at this;exact this.1);have hlen:(dn.flatMap (cI (aJ rows) rows.length)).length<=rows.length:=c6 nd fun x hx=>by
    obtain⟨f,_,hx⟩:=List.mem_flatMap.1 hx;exact(iS.1 hx).1
   have hlen2:=Au (aJ rows) rows.length f;have hsz:(2000:Nat)<sizeLine:=by decide
   refine⟨by omega,?_,?_⟩
   ·rw[aH hne]
    exact e4 _ _ (b2 _ _ hne g1)
   ·refine ih (dn++[f]) _ _ (by rw[hd];simp) ((b2.trans e4.but).trans (ExtBut.upd _ _ _)) ?_
    rw[ab,List.flatMap_append,List.flatMap_cons,List.flatMap_nil,List.append_nil]
 exact key (memb left) [] none M1 rfl (ExtBut.refl p M1) hp1
theorem GE(rs:List Nat):intKeys (rowK rs)=some (rs.map fun(x:Nat)=>(x:Int)):=by
 induction rs with
 |nil=>rfl
 |cons r rs ih=>
  show Option.map _ (intKeys (rowK rs))=_;rw[ih];rfl
theorem yo{rows:List Row}{r f:Nat}{x:Row}(h:rows[r]?=some x):r∈bG (rows.map b0) rows.length f↔a8 (b0 x) f=true:=by
 unfold bG;rw[List.mem_filter,List.mem_range];have hl:r<rows.length:=(List.getElem?_eq_some_iff.mp h).1;have:(rows.map b0).getD r []=b0 x:=by rw[List.getD_eq_getElem?_getD,List.getElem?_map,h];rfl
 rw[this];exact⟨fun h=>h.2,fun h=>⟨hl,h⟩⟩
theorem xi(f0:cn.F.getD 0 (fun _ _ _=>False)=da)(hT:cn.T S "rows_helped" = some (ge c S))(hT2:cn.T S "head_of" = some (jU c S))(h:gf c S ds M Q):wSs cn gx (fin Q) (ag ["", "", "", "", "", ""] ds) M:=by
 obtain⟨a,m,rows,b,kvs,fs,left,rfl,A,hn,hb,hk,hf,q⟩:=h;show wSs cn gx (fin Q) [some (.ref a),some (.ref b),some (.int (left:Int)),none,none,none] M;have hm:=A.ok.most;unfold gx;simp! only[List.set];intro p hp;have e0:Ext M (updM M p (MO.dic [])):=Ext.new hp;have g0:updM M p (MO.dic []) p=some (.dic (rowK [])):=ab;generalize updM M p (MO.dic [])=M1 at *;unfold mf;simp! only[List.set,e0 b _ hb,hk];have hbp:b≠p:=bK hb hp;have outer:∀(rst dn:List Nat) (rs:List Nat) (v4 v5:Option D) (M2:MH),fs=dn++rst->ExtBut p M1 M2->M2 p=some (.dic (rowK rs))->rs.Nodup->(∀r,r∈rs ↔ ∃x,rows[r]?=some x/\left.testBit x.1=true/\∃f∈dn,a8 (b0 x) f=true) ->
   az (fun M'=>M' b=some (.rod kvs)) (.nm 4) (wSs cn iK) { nx:=wSs cn iJ (fin Q),rt:=Q } (nats rst) [some (.ref a),some (.ref b),some (.int (left:Int)),some (.ref p),v4,v5] M2:=by
  intro rst;induction rst with
  |nil=>
   intro dn rs v4 v5 M2 hd b2 g2 nd hr;rw[List.append_nil] at hd;subst hd;rw[show nats []=[] from rfl,az];unfold iJ;simp! only[dBk,lQ,g2,rdL,rdD,GE,rH];have hlen:rs.length<=rows.length:=c6 nd fun x hx=>by
    obtain⟨y,hy,_⟩:=(hr x).1 hx;exact(List.getElem?_eq_some_iff.mp hy).1
   refine⟨by rw[List.length_map];omega,fun p2 ms hp2 h1 h2=>?_⟩;obtain⟨ns,rfl,h3,h4⟩:=ni h1 h2 nd;rw[qt];have e2:Ext M M2:=b2.ext e0 hp;exact q p2 ns _ (e2.free hp2) (e2.then hp2) ab h3 fun r=>(h4 r).trans (hr r)
  |cons f rst ih=>
   intro dn rs v4 v5 M2 hd b2 g2 nd hr;have e2:Ext M M2:=b2.ext e0 hp;have hfm:f<m:=hf f (by rw[hd];simp);obtain⟨ok,crs,p1,p2,p3,ps1,ps2,ps3,h1,-⟩:=A.ext e2;rw[show nats (f::rst)=.int (f:Int)::nats rst from rfl,az];unfold iK;simp! only[List.set,h1,xh,hT];refine⟨trivial,a,m,rows,f,rfl,A.ext e2,hfm,fun p4 M4 hp4 e4 g4=>?_⟩;simp only[g4];have hp4p:p4≠p:=fun z=>by subst z;rw[g2] at hp4;cases hp4
   have inner:∀(E:EndsD) (rst2 dn2 rs2:List Nat) (v5:Option D) (M5:MH),bG (rows.map b0) rows.length f=dn2++rst2->ExtBut p M4 M5->M5 p=some (.dic (rowK rs2))->rs2.Nodup ->
     (∀r,r∈rs2↔(∃x,rows[r]?=some x/\left.testBit x.1=true/\∃f∈dn,a8 (b0 x) f=true)\/(r∈dn2/\∃x,rows[r]?=some x/\left.testBit x.1=true)) ->
     (∀rs3 w M6,ExtBut p M4 M6->M6 p=some (.dic (rowK rs3))->rs3.Nodup->(∀r,r∈rs3↔(∃x,rows[r]?=some x/\left.testBit x.1=true/\∃f∈dn,a8 (b0 x) f=true)\/(r∈bG (rows.map b0) rows.length f/\∃x,rows[r]?=some x/\left.testBit x.1=true)) ->
      E.nx [some (.ref a),some (.ref b),some (.int (left:Int)),some (.ref p),some (.int (f:Int)),w] M6) ->
     az (fun M'=>M' p4=some (.lst (nats (bG (rows.map b0) rows.length f)))) (.nm 5) (wSs cn dW) E (nats rst2) [some (.ref a),some (.ref b),some (.int (left:Int)),some (.ref p),some (.int (f:Int)),v5] M5:=by
    intro E rst2;induction rst2 with
    |nil=>
     intro dn2 rs2 v5 M5 hd2 b5 g5 nd5 hr5 k;rw[List.append_nil] at hd2;rw[←hd2] at hr5;rw[show nats []=[] from rfl,az];exact k rs2 v5 M5 b5 g5 nd5 hr5
    |cons r rst2 ih2=>
     intro dn2 rs2 v5 M5 hd2 b5 g5 nd5 hr5 k;have hrl:r<rows.length:=Av (show r∈bG (rows.map b0) rows.length f by rw[hd2];simp);have hx:rows[r]?=some rows[r]:=List.getElem?_eq_getElem hrl;generalize rows[r]=x at hx;have e5:Ext M M5:=((b2.trans e4.but).trans b5).ext e0 hp;obtain⟨ok,crs,p1,p2,p3,ps1,ps2,ps3,h1,-⟩:=A.ext e5;have hd3:bG (rows.map b0) rows.length f=(dn2++[r])++rst2:=by rw[hd2];simp
     have g45:M5 p4=some (.lst (nats (bG (rows.map b0) rows.length f))):=b5 _ _ hp4p g4;have has:hasB (left:Int) (x.1:Int)=left.testBit x.1:=fY _ _;have body:∀(E:EndsD),Bif (left.testBit x.1) (E.nx [some (.ref a),some (.ref b),some (.int (left:Int)),some (.ref p),some (.int (f:Int)),some (.int (r:Int))] (updM M5 p (.dic (rowK (if r∈rs2 then rs2 else rs2++[r]))))) (E.nx [some (.ref a),some (.ref b),some (.int (left:Int)),some (.ref p),some (.int (f:Int)),some (.int (r:Int))] M5) ->
       wSs cn dW E [some (.ref a),some (.ref b),some (.int (left:Int)),some (.ref p),some (.int (f:Int)),some (.int (r:Int))] M5:=by
      intro E kk;unfold dW;simp! only[List.set,h1,vi,hT2,f0];refine⟨trivial,a,m,rows,r,x,rfl,A.ext e5,hx,left,x.1,rfl,by omega,?_⟩;rw[has];cases bb:left.testBit x.1 with
      |false=>rw[bb] at kk;exact kk
      |true=>
       rw[bb] at kk;simp only[aU,g5,Aw];have hlen:rs2.length<=rows.length:=c6 nd5 fun y hy=>by
        rcases(hr5 y).1 hy with⟨z,hz,_⟩ | ⟨_,z,hz,_⟩<;>exact(List.getElem?_eq_some_iff.mp hz).1
       have hsz:(2000:Nat)<sizeLine:=by decide
       exact⟨by unfold rowK;rw[List.length_map];omega,kk⟩
     rw[show nats (r::rst2)=.int (r:Int)::nats rst2 from rfl,az];refine body _ ?_;cases bb:left.testBit x.1 with
     |false=>
      refine⟨g45,ih2 (dn2++[r]) rs2 _ M5 hd3 b5 g5 nd5 (fun r'=>?_) k⟩;rw[hr5];constructor
      ·rintro(h | ⟨h,h'⟩)
       ·exact .inl h
       ·exact .inr ⟨List.mem_append.2 (.inl h),h'⟩
      ·rintro(h | ⟨h,h'⟩)
       ·exact .inl h
       ·rcases List.mem_append.1 h with h | h
        ·exact .inr ⟨h,h'⟩
        ·have:r'=r:=by simpa using h
         subst this;obtain⟨y,hy,hb'⟩:=h';rw[hx] at hy;cases hy;rw[bb] at hb';cases hb'
     |true=>
      refine⟨?_,ih2 (dn2++[r]) (if r∈rs2 then rs2 else rs2++[r]) _ _ hd3 (b5.trans (ExtBut.upd _ _ _)) ab ?_ (fun r'=>?_) k⟩
      ·rw[aH hp4p];exact g45
      ·split
       ·exact nd5
       ·rename_i hni
        rw[List.nodup_append];refine⟨nd5,by simp,fun y hy z hz w=>?_⟩;have hz:z=r:=by simpa using hz
        subst hz;subst w;exact hni hy
      ·have hm1:r'∈(if r∈rs2 then rs2 else rs2++[r])↔r'∈rs2\/r'=r:=by
        split
        ·rename_i hi
         exact⟨.inl,fun h=>h.elim id fun z=>z▸hi⟩
        ·simp
       rw[hm1,hr5];constructor
       ·rintro((h | ⟨h,h'⟩) | h)
        ·exact .inl h
        ·exact .inr ⟨List.mem_append.2 (.inl h),h'⟩
        ·subst h
         exact .inr ⟨List.mem_append.2 (.inr (.head _)),x,hx,bb⟩
       ·rintro(h | ⟨h,h'⟩)
        ·exact .inl (.inl h)
        ·rcases List.mem_append.1 h with h | h
         ·exact .inl (.inr ⟨h,h'⟩)
         ·exact .inr (by simpa using h)
   refine inner _ _ [] rs _ M4 rfl (ExtBut.refl p M4) (e4 _ _ g2) nd (fun r=>?_) ?_
   ·rw[hr]
    constructor
    ·exact .inl
    ·rintro(h | ⟨h,-⟩)
     ·exact h
     ·cases h
   ·intro rs3 w M6 b6 g6 nd6 hr6
    have b46:ExtBut p M1 M6:=(b2.trans e4.but).trans b6;refine⟨(b46.ext e0 hp) _ _ hb,ih (dn++[f]) rs3 _ _ M6 (by rw[hd];simp) b46 g6 nd6 fun r=>?_⟩;rw[hr6];constructor
    ·rintro(⟨x,hx,hb1,g,hg,hh⟩ | ⟨h,x,hx,hb1⟩)
     ·exact⟨x,hx,hb1,g,List.mem_append.2 (.inl hg),hh⟩
     ·exact⟨x,hx,hb1,f,List.mem_append.2 (.inr (.head _)),(yo hx).1 h⟩
    ·rintro⟨x,hx,hb1,g,hg,hh⟩
     rcases List.mem_append.1 hg with hg | hg
     ·exact .inl ⟨x,hx,hb1,g,hg,hh⟩
     ·have:g=f:=by simpa using hg
      subst this;exact .inr ⟨(yo hx).2 hh,x,hx,hb1⟩
 exact outer fs [] [] none none M1 rfl (ExtBut.refl p M1) g0 .nil fun r=>by simp
theorem vj(fr:List (Nat×Nat)):keysOf (aZ fr)=nats (fr.map (·.1)):=by unfold keysOf aZ nats;rw[List.map_map,List.map_map];rfl
theorem EW(fr:List (Nat×Nat)):intKeys (aZ fr)=some ((fr.map (·.1)).map fun(x:Nat)=>(x:Int)):=by
 induction fr with
 |nil=>rfl
 |cons r rs ih=>
  show Option.map _ (intKeys (aZ rs))=_;rw[ih];rfl
theorem qu(f:Nat):∀{fr:List (Nat×Nat)}{r:Nat},(fr.map (·.1)).Nodup->(f,r)∈fr->valD (aZ fr) (.inl (f:Int))=some (.int (r:Int))
 |[],r,_,h=>nomatch h
 |(g,s)::fr,r,nd,h=>by
  rw[List.map_cons,List.nodup_cons] at nd;unfold valD;show Option.map _ (List.find? _ ((.inl (g:Int),.int (s:Int))::aZ fr))=_;rw[List.find?_cons];by_cases e:g=f
  ·subst e
   rcases List.mem_cons.1 h with h | h
   ·cases h;simp
   ·exact absurd (List.mem_map.2 ⟨_,h,rfl⟩) nd.1
  ·have h2:¬((g:Int)=(f:Int)):=by omega
   rw[show decide ((Sum.inl (g:Int):Key)=.inl (f:Int))=false by simp[h2]];rcases List.mem_cons.1 h with h | h
   ·cases h;exact absurd rfl e
   ·exact qu f nd.2 h
theorem tY(f:Nat):∀{fr:List (Nat×Nat)},(∀r,(f,r)∉fr)->valD (aZ fr) (.inl (f:Int))=none/\((aZ fr).any fun kv=>decide (kv.1=(.inl (f:Int):Key)))=false
 |[],_=>⟨rfl,rfl⟩
 |(g,s)::fr,h=>by
  have e:g≠f:=fun z=>by subst z;exact h s (.head _)
  have h2:¬((g:Int)=(f:Int)):=by omega
  have ih:=tY f (fr:=fr) fun r hr=>h r (.tail _ hr)
  constructor
  ·unfold valD
   show Option.map _ (List.find? _ ((.inl (g:Int),.int (s:Int))::aZ fr))=_;rw[List.find?_cons,show decide ((Sum.inl (g:Int):Key)=.inl (f:Int))=false by simp[h2]];exact ih.1
  ·show(List.any ((.inl (g:Int),.int (s:Int))::aZ fr) _)=false
   rw[List.any_cons,ih.2,show decide ((Sum.inl (g:Int):Key)=.inl (f:Int))=false by simp[h2]];rfl
theorem GF{f r:Nat}{fr:List (Nat×Nat)}(h:∀r,(f,r)∉fr):putD (aZ fr) (.inl (f:Int)) (.int (r:Int))=aZ (fr++[(f,r)]):=by
 unfold putD;rw[(tY f h).2];unfold aZ;rw[List.map_append];rfl
theorem tZ(f0:cn.F.getD 0 (fun _ _ _=>False)=jg c)(hT:cn.T S "head_of" = some (jU c S))(hT2:cn.T S "conds_of" = some (kO c S))(h:dE c S ds M Q):wSs cn dX (fin Q) (ag ["", "", "", "", "", "", ""] ds) M:=by
 obtain⟨a,m,rows,b,ns,h,g,rfl,A,hb,hns,q⟩:=h;show wSs cn dX (fin Q) [some (.ref a),some (.ref b),some (.int (h:Int)),some (.int (g:Int)),none,none,none] M;have hm:=A.ok.most;unfold dX;simp! only[List.set];intro p hp;have e0:Ext M (updM M p (MO.dic [])):=Ext.new hp;have g0:updM M p (MO.dic []) p=some (.dic (aZ [])):=ab;generalize updM M p (MO.dic [])=M1 at *;unfold kQ;simp! only[List.set,e0 b _ hb];have hbp:b≠p:=bK hb hp;have outer:∀(rst dn:List Nat) (fr:List (Nat×Nat)) (v5 v6:Option D) (M2:MH),ns=dn++rst->ExtBut p M1 M2->M2 p=some (.dic (aZ fr))->(fr.map (·.1)).Nodup->(∀f r,(f,r)∈fr↔dn.find? (hits rows h g f)=some r) ->
   az (fun M'=>M' b=some (.lst (nats ns))) (.nm 5) (wSs cn cV) { nx:=wSs cn gg (fin Q),rt:=Q } (nats rst) [some (.ref a),some (.ref b),some (.int (h:Int)),some (.int (g:Int)),some (.ref p),v5,v6] M2:=by
  intro rst;induction rst with
  |nil=>
   intro dn fr v5 v6 M2 hd b2 g2 nd hr;rw[List.append_nil] at hd;subst hd;rw[show nats []=[] from rfl,az];unfold gg;simp! only[];exact q p fr M2 hp (b2.ext e0 hp) g2 nd hr
  |cons r rst ih=>
   intro dn fr v5 v6 M2 hd b2 g2 nd hr;have e2:Ext M M2:=b2.ext e0 hp;have hrl:r<rows.length:=hns r (by rw[hd];simp);have hx:rows[r]?=some rows[r]:=List.getElem?_eq_getElem hrl;generalize rows[r]=x at hx;have hd2:ns=(dn++[r])++rst:=by rw[hd];simp
   have hfit:=AC A.ok hx;have hfm:∀f∈fr.map (·.1),f<m:=by
    intro f hf;obtain⟨⟨f',r'⟩,hfr,rfl⟩:=List.mem_map.1 hf;obtain⟨y,hy,hy1,_⟩:=jV.1 (List.find?_some ((hr _ _).1 hfr));rw[←hy1];exact(AC A.ok hy).1
   have hlen:fr.length<=m:=by have:=c6 nd hfm;rwa [List.length_map] at this
   have body:∀(E:EndsD) (v6:Option D),((∃r',(x.1,r')∈fr)->E.nx [some (.ref a),some (.ref b),some (.int (h:Int)),some (.int (g:Int)),some (.ref p),some (.int (r:Int)),some (.int (x.1:Int))] M2) ->
     ((∀r',(x.1,r')∉fr)->∀M3,Ext M2 M3->Bif (a9 h g x) (E.nx [some (.ref a),some (.ref b),some (.int (h:Int)),some (.int (g:Int)),some (.ref p),some (.int (r:Int)),some (.int (x.1:Int))] (updM M3 p (.dic (aZ (fr++[(x.1,r)]))))) (E.nx [some (.ref a),some (.ref b),some (.int (h:Int)),some (.int (g:Int)),some (.ref p),some (.int (r:Int)),some (.int (x.1:Int))] M3)) ->
     wSs cn cV E [some (.ref a),some (.ref b),some (.int (h:Int)),some (.int (g:Int)),some (.ref p),some (.int (r:Int)),v6] M2:=by
    intro E v6 k1 k2;obtain⟨ok,crs,p1,p2,p3,ps1,ps2,ps3,h1,-⟩:=A.ext e2;unfold cV;simp! only[List.set,h1,vi,hT];refine⟨trivial,a,m,rows,r,x,rfl,A.ext e2,hx,?_⟩;unfold kP;simp! only[List.set,h1,Ct,hT2,g2,rdL,rdD,rl,f0];by_cases hin:∃r',(x.1,r')∈fr
    ·obtain⟨r',hr'⟩:=hin
     rw[qu x.1 nd hr'];exact k1 ⟨r',hr'⟩
    ·have hno:∀r',(x.1,r')∉fr:=fun r' z=>hin ⟨r',z⟩
     rw[(tY x.1 hno).1];simp only[Option.isSome_none,Bool.not_false,aU];refine⟨trivial,a,m,rows,r,x,rfl,A.ext e2,hx,fun p4 rs M4 hp4 e4 g4 c4=>?_⟩;refine⟨p4,h,g,rs,x.2,rfl,g4,c4,fun t ht=>CT.fit_ok (by omega) (hfit.2.2 t ht),fun M5 e5=>?_⟩;have k3:=k2 hno M5 (e4.trans e5);have rm:x.2.all (CT.carried (h:Int) (g:Int))=a9 h g x:=rfl;rw[rm];cases bb:a9 h g x with
     |false=>rw[bb] at k3;exact k3
     |true=>
      rw[bb] at k3;have hsz:(2000:Nat)<sizeLine:=by decide
      simp only[aU,(e4.trans e5) p _ g2,GF hno];exact⟨by unfold aZ;rw[List.length_map];omega,k3⟩
   rw[show nats (r::rst)=.int (r:Int)::nats rst from rfl,az];refine body _ _ ?_ ?_
   ·rintro⟨r',hr'⟩
    refine⟨e2 _ _ hb,ih (dn++[r]) fr _ _ M2 hd2 b2 g2 nd fun f r2=>?_⟩;rw[hr,List.find?_append];by_cases hf:x.1=f
    ·subst hf
     rw[(hr _ _).1 hr'];rfl
    ·have:hits rows h g f r=false:=by unfold hits;rw[hx];simp[hf]
     rw[List.find?_cons,this,List.find?_nil,Option.or_none]
   ·intro hno M3 e3
    have hnf:dn.find? (hits rows h g x.1)=none:=by
     cases e:dn.find? (hits rows h g x.1) with
     |none=>rfl
     |some r'=>exact absurd ((hr _ _).2 e) (hno r')
    cases bb:a9 h g x with
    |false=>
     refine⟨(e2.trans e3) _ _ hb,ih (dn++[r]) fr _ _ M3 hd2 (b2.trans e3.but) (e3 _ _ g2) nd fun f r2=>?_⟩;rw[hr,List.find?_append];have:hits rows h g f r=false:=by unfold hits;rw[hx];simp[bb]
     rw[List.find?_cons,this,List.find?_nil,Option.or_none]
    |true=>
     refine⟨?_,ih (dn++[r]) (fr++[(x.1,r)]) _ _ _ hd2 ((b2.trans e3.but).trans (ExtBut.upd _ _ _)) ab ?_ fun f r2=>?_⟩
     ·rw[aH hbp];exact(e2.trans e3) _ _ hb
     ·rw[List.map_append,List.nodup_append]
      refine⟨nd,by simp,fun y hy z hz w=>?_⟩;have hz:z=x.1:=by simpa using hz
      subst hz;subst w;obtain⟨⟨f',r'⟩,hfr,he⟩:=List.mem_map.1 hy;have he:f'=x.1:=he;subst he;exact hno r' hfr
     ·rw[List.mem_append,hr,List.find?_append]
      by_cases hf:x.1=f
      ·subst hf
       have:hits rows h g x.1 r=true:=by unfold hits;rw[hx];simp[bb]
       rw[hnf,List.find?_cons,this];simp only[Option.none_or,List.mem_cons,List.not_mem_nil,or_false,Prod.mk.injEq,true_and,Option.some.injEq];constructor
       ·rintro(h | h)
        ·cases h
        ·exact h.symm
       ·exact fun h=>.inr h.symm
      ·have:hits rows h g f r=false:=by unfold hits;rw[hx];simp[hf]
       rw[List.find?_cons,this,List.find?_nil,Option.or_none];constructor
       ·rintro(h | h)
        ·exact h
        ·have:f=x.1/\r2=r:=by simpa using h
         exact absurd this.1.symm hf
       ·exact .inl
 exact outer ns [] [] none none M1 rfl (ExtBut.refl p M1) g0 .nil fun f r=>by simp
end
end SH
namespace SH
open PySem L2 DD
def gy:Ss:=.cons (.ret (.fn 0 (.cons (.comp 1 (.ix (.var 4) (.int 0)) (.nm 4) (.seq (.fn 1 (.cons (.var 0) (.cons (.var 1) (.cons (.var 2) (.cons (.var 3) .nil)))))) .no) .nil))) .nil
def lc:Ss:=.cons (.ret (.var 4)) .nil
def ld:Ss:=.cons (.set 8 (.fn 0 (.cons (.var 0) (.cons (.fn 1 (.cons (.var 0) (.cons (.var 8) (.cons (.var 5) .nil)))) (.cons (.var 7) (.cons (.var 3) .nil)))))) .nil
def lf:Ss:=.cons (.set 6 (.bin .Add (.var 6) (.int 1))) ld
def lg:Ss:=.cons (.set 5 (.bin .BitAnd (.var 5) (.inv (.var 9)))) lf
def lh:Ss:=.cons (.set 7 (.bin .BitOr (.var 7) (.var 9))) lg
def li:Ss:=.cons (.set 9 (.fn 2 (.cons (.var 8) .nil))) lh
def gN:Ss:=.cons (.expr (.mt .extend (.var 4) (.cons (.comp 1 (.tup (.cons (.var 10) (.cons (.var 6) (.cons (.ix (.var 8) (.var 10)) .nil)))) (.nm 10) (.seq (.bk .sorted (.cons (.var 8) .nil))) .no) .nil))) li
def lj:Ss:=.cons (.while (.cmp .Gt (.bi .len (.cons (.var 8) .nil)) (.int 0)) gN) lc
def lm:Ss:=.cons (.set 8 (.fn 0 (.cons (.var 0) (.cons (.fn 3 (.cons (.var 0) (.cons (.var 5) .nil))) (.cons (.var 7) (.cons (.var 3) .nil)))))) lj
def lq:Ss:=.cons (.set 7 (.var 2)) lm
def kR:Ss:=.cons (.set 6 (.int 1)) lq
def kS:Ss:=.cons (.set 5 (.bin .BitAnd (.var 1) (.inv (.var 2)))) kR
def fF:Ss:=.cons (.setC 4 1 (.tup (.cons (.var 10) (.cons (.int 0) (.cons .non .nil)))) (.nm 10) (.seq (.fn 4 (.cons (.var 2) .nil))) .no) kS
def rR(x:Nat×Nat×Nat):D:=.tup [.int (x.1:Int),.int (x.2.1:Int),.int (x.2.2:Int)]
def oI(f:Nat):D:=.tup [.int (f:Int),.int 0,.non]
def jW(rows:List Row)(g told heads:Nat):List D:=(memb told).map oI++(bS rows g (ac heads told+1) 1 told (ac heads told)).map rR
def oJ(c:CA)(S:Addr):SpD:=fun ds M Q=>∃(a:Addr) (m:Nat) (rows:List Row) (heads told g:Nat),ds=[.ref a,.int (heads:Int),.int (told:Int),.int (g:Int)]/\SheetAt c S M a m rows/\rows.length<64/\m<64/\heads<2 ^ m/\told<2 ^ m /\
 ∀p M',M p=none->Ext M M'->M' p=some (.lst (jW rows g told heads))->Q (.ref p) M'
def dF(c:CA)(S:Addr):SpD:=fun ds M Q=>∃(a:Addr) (m:Nat) (rows:List Row) (heads told g:Nat),ds=[.ref a,.int (heads:Int),.int (told:Int),.int (g:Int)]/\SheetAt c S M a m rows/\rows.length<64/\m<64/\heads<2 ^ m/\told<2 ^ m /\
 ∀M',Ext M M'->Q (.int (cv rows g told heads:Nat)) M'
theorem yp(rows:List Row)(h g left:Nat):ay rows h g left=((memb left).filter fun f=>(bv rows h g f).isSome).map fun f=>(f,(bv rows h g f).getD 0):=by
 unfold ay;induction memb left with
 |nil=>rfl
 |cons f l ih=>
  rw[List.filterMap_cons,List.filter_cons];cases e:bv rows h g f with
  |none=>simpa using ih
  |some r=>simp[ih,e]
theorem Cw(n:Nat):(memb n).Pairwise (· < ·):=List.Pairwise.filter _ List.pairwise_lt_range
theorem AD{n m:Nat}(h:n<2 ^ m):(memb n).length<=m:=c6 (oA n) fun f hf=>eB h ((br _ _).1 hf)
theorem AE(rows:List Row)(h g left:Nat):(ay rows h g left).map (·.1)=(memb left).filter fun f=>(bv rows h g f).isSome:=by
 rw[yp,List.map_map];exact List.map_id _
theorem o3(rows:List Row)(h g left:Nat):((ay rows h g left).map (·.1)).Pairwise (· < ·):=by
 rw[AE];exact List.Pairwise.filter _ (Cw left)
theorem EX{l l':List Nat}(h:∀f,f∈l↔f∈l'):setN l=setN l':=by
 refine Nat.eq_of_testBit_eq fun f=>?_
 rw[bq,bq];exact decide_eq_decide.2 (h f)
theorem yq{rows:List Row}{g:Nat}:∀(k k' step come left:Nat),left<k->left<k'->bS rows g k step come left=bS rows g k' step come left
 |0,_,_,_,_,h,_=>absurd h (Nat.not_lt_zero _)
 |_,0,_,_,_,_,h=>absurd h (Nat.not_lt_zero _)
 |k+1,k'+1,step,come,left,h,h'=>by
  rw[bS,bS];by_cases e:ay rows come g left=[]
  ·rw[if_pos e,if_pos e]
  ·rw[if_neg e,if_neg e]
   have:=oF e
   rw[yq k k' _ _ _ (by omega) (by omega)]
theorem lH{rows:List Row}{g:Nat}:∀(k step come left:Nat),((bS rows g k step come left).map (·.1)).Nodup/\∀f∈(bS rows g k step come left).map (·.1),left.testBit f=true
 |0,_,_,_=>⟨.nil,fun f h=>nomatch h⟩
 |k+1,step,come,left=>by
  rw[bS];by_cases e:ay rows come g left=[]
  ·rw[if_pos e];exact⟨.nil,fun f h=>nomatch h⟩
  ·rw[if_neg e]
   obtain⟨h1,h2⟩:=lH (rows:=rows) (g:=g) k (step+1) (come|||newB (ay rows come g left)) (ac left (newB (ay rows come g left)));have h0:((ay rows come g left).map fun x=>(x.1,step,x.2)).map (·.1)=(ay rows come g left).map (·.1):=by rw[List.map_map];rfl
   have h3:∀f∈(ay rows come g left).map (·.1),left.testBit f=true:=by
    intro f hf;obtain⟨⟨f',r⟩,hx,rfl⟩:=List.mem_map.1 hf;exact(cT.1 hx).1
   rw[List.map_append,h0];refine⟨?_,fun f hf=>?_⟩
   ·rw[List.nodup_append]
    refine⟨(o3 rows come g left).imp fun h=>Nat.ne_of_lt h,h1,fun x hx y hy z=>?_⟩;subst z
    have:=h2 x hy
    rw[aN] at this;have h4:(newB (ay rows come g left)).testBit x=true:=by unfold newB;rw[bq];exact decide_eq_true hx
    rw[h4,Bool.not_true,Bool.and_false] at this;cases this
   ·rcases List.mem_append.1 hf with hf | hf
    ·exact h3 f hf
    ·have:=h2 f hf
     rw[aN,Bool.and_eq_true] at this;exact this.1
theorem EY{p:Nat->Bool}{ns:List Nat}{n:Nat}(hs:ns.Pairwise (· < ·))(hl:∀r∈ns,r<n)(hp:∀r,r<n->p r=true->r∈ns):ns.find? p=(List.range n).find? p:=by
 have h1:ns.filter p=(List.range n).filter p:=oG (List.Pairwise.filter _ hs) (List.Pairwise.filter _ List.pairwise_lt_range) fun x=>by
  rw[List.mem_filter,List.mem_filter,List.mem_range];exact⟨fun⟨a,b⟩=>⟨hl x a,b⟩,fun⟨a,b⟩=>⟨hp x a b,b⟩⟩
 rw[←List.head?_filter,←List.head?_filter,h1]
theorem AF{rows:List Row}{h g left:Nat}{ns:List Nat}(hs:ns.Pairwise (· < ·))(hl:∀r∈ns,∃x,rows[r]?=some x/\left.testBit x.1=true)(hp:∀f r,left.testBit f=true->hits rows h g f r=true->r∈ns)(f r:Nat):
  ns.find? (hits rows h g f)=some r↔left.testBit f=true/\bv rows h g f=some r:=by
 cases b:left.testBit f with
 |true=>
  unfold bv;rw[EY hs (fun r hr=>let⟨x,hx,_⟩:=hl r hr;(List.getElem?_eq_some_iff.mp hx).1) fun r _ q=>hp f r b q];simp
 |false=>
  have:ns.find? (hits rows h g f)=none:=by
   rw[List.find?_eq_none];intro r hr q;obtain⟨x,hx,hb⟩:=hl r hr;obtain⟨y,hy,hf,_⟩:=jV.1 q;rw[hx] at hy;cases hy;rw[hf,b] at hb;cases hb
  rw[this];simp
end SH
namespace SH
open PySem L2 DD
def gz(rows:List Row)(come g left:Nat)(fr:List (Nat×Nat)):Prop:=(fr.map (·.1)).Nodup/\∀f r,(f,r)∈fr↔left.testBit f=true/\bv rows come g f=some r
theorem gz.mem{rows:List Row}{come g left:Nat}{fr:List (Nat×Nat)}(h:gz rows come g left fr)(f:Nat):f∈fr.map (·.1)↔f∈(ay rows come g left).map (·.1):=by
 rw[List.mem_map,List.mem_map];constructor
 ·rintro⟨⟨f',r⟩,hx,rfl⟩;exact⟨_,cT.2 ((h.2 _ _).1 hx),rfl⟩
 ·rintro⟨⟨f',r⟩,hx,rfl⟩;exact⟨_,(h.2 _ _).2 (cT.1 hx),rfl⟩
theorem gz.nil{rows:List Row}{come g left:Nat}{fr:List (Nat×Nat)}(h:gz rows come g left fr)(e:fr.length=0):ay rows come g left=[]:=by
 have e:fr=[]:=List.length_eq_zero_iff.1 e;subst e;cases q:ay rows come g left with
 |nil=>rfl
 |cons x l=>
  have:=(h.mem x.1).2 (by rw[q];exact .head _)
  cases this
theorem EZ{m:Nat}{rows:List Row}{come g left:Nat}{fr:List (Nat×Nat)}{ns:List Nat}(ok:RowsOk m rows)(h:gz rows come g left fr)(hs:ns.Pairwise (· < ·))
  (hr:∀r,r∈ns ↔ ∃x,rows[r]?=some x/\(ac left (setN (fr.map (·.1)))).testBit x.1=true/\∃f∈fr.map (·.1),a8 (b0 x) f=true) (f r:Nat):
  ns.find? (hits rows (come|||setN (fr.map (·.1))) g f)=some r↔(ac left (setN (fr.map (·.1)))).testBit f=true/\bv rows (come|||setN (fr.map (·.1))) g f=some r:=by
 refine AF hs (fun r hr'=>let⟨x,hx,hb,_⟩:=(hr r).1 hr';⟨x,hx,hb⟩) ?_ f r;intro f r hf hh;obtain⟨x,hx,rfl,hq⟩:=jV.1 hh;refine(hr r).2 ⟨x,hx,hf,?_⟩;rw[aN,Bool.and_eq_true,bq] at hf;have hnf:x.1∉fr.map (·.1):=by simpa using hf.2
 have hno:bv rows come g x.1=none:=by
  cases e:bv rows come g x.1 with
  |none=>rfl
  |some r'=>exact absurd (List.mem_map.2 ⟨_,(h.2 _ _).2 ⟨hf.1,e⟩,rfl⟩) hnf
 obtain⟨fi,h1,h2,h3⟩:=Cr (nh hno (List.mem_of_getElem? hx) rfl) hq;obtain⟨t,ht,hft⟩:=List.mem_flatMap.1 h1;have h4:=yk ((AC ok hx).2.2 t ht) _ hft;obtain⟨k,rfl⟩:∃k:Nat,fi=(k:Int):=⟨fi.toNat,by have:=h4.1;simp only at this;omega⟩;rw[fY] at h2 h3;rw[Nat.testBit_or,h2,Bool.false_or,bq] at h3;exact⟨k,of_decide_eq_true h3,decide_eq_true h1⟩
section
variable {cn : Cn} {c : CA} {S : Addr} {ds : List D} {M : MH} {Q : DK}
theorem GG(f0:cn.F.getD 0 (fun _ _ _=>False)=dE c S)(f1:cn.F.getD 1 (fun _ _ _=>False)=gf c S)(f2:cn.F.getD 2 (fun _ _ _=>False)=jT)
  {E:EndsD}{a p b:Addr}{m:Nat}{rows:List Row}{heads told g left step come:Nat}{fr:List (Nat×Nat)}{acc:List D}{v9:Option D}{M0 M:MH}(A:SheetAt c S M0 a m rows) (hn:rows.length<64) (hm:m<64) (hl:left<2 ^ m) (e0:Ext M0 M) (hp0:M0 p=none) (hb0:M0 b=none)
  (hp:M p=some (.lst acc)) (hb:M b=some (.dic (aZ fr))) (F:gz rows come g left fr) (hacc:acc.length+64<=2000)
  (k:∀b' fr' w9 M',Ext M0 M'->M0 b'=none->M' p=some (.lst (acc++(ay rows come g left).map fun x=>rR (x.1,step,x.2)))->M' b'=some (.dic (aZ fr')) ->
   gz rows (come|||newB (ay rows come g left)) g (ac left (newB (ay rows come g left))) fr' ->
   E.nx [some (.ref a),some (.int (heads:Int)),some (.int (told:Int)),some (.int (g:Int)),some (.ref p),some (.int (ac left (newB (ay rows come g left)):Nat)),some (.int ((step+1:Nat):Int)),some (.int (come|||newB (ay rows come g left):Nat)),some (.ref b'),w9] M'):
  wSs cn gN E [some (.ref a),some (.int (heads:Int)),some (.int (told:Int)),some (.int (g:Int)),some (.ref p),some (.int (left:Int)),some (.int (step:Int)),some (.int (come:Int)),some (.ref b),v9] M:=by
 have hnew:newB (ay rows come g left)=setN (fr.map (·.1)):=EX fun f=>(F.mem f).symm
 have hfm:∀f∈fr.map (·.1),f<m:=by
  intro f hf;obtain⟨⟨f',r⟩,hx,rfl⟩:=List.mem_map.1 hf;exact eB hl ((F.2 _ _).1 hx).1
 have hfl:fr.length<=m:=by have:=c6 F.1 hfm;rwa [List.length_map] at this
 have hsz:(2000:Nat)<sizeLine:=by decide
 unfold gN;simp! only[List.set,List.cons_append,List.nil_append,List.replicate,dBk,lQ,hp,hb,rdL,rdD,EW,rH];refine⟨rfl,by rw[List.length_map,List.length_map];omega,fun p2 ms hp2 h1 h2=>?_⟩;obtain⟨ns,rfl,h3,h4⟩:=ni h1 h2 F.1;rw[qt];have hns:ns=(ay rows come g left).map (·.1):=oG h3 (o3 _ _ _ _) fun f=>(h4 f).trans (F.mem f)
 have e3:=Ext.new (o:=MO.lst (nats ns)) hp2;have g3:updM M p2 (MO.lst (nats ns)) p2=some (.lst (nats ns)):=ab;generalize updM M p2 (MO.lst (nats ns))=M3 at *;simp only[g3];refine fW (f:=fun d=>match d with | .int i=>.tup [.int i,.int (step:Int),.int ((bv rows come g i.toNat).getD 0:Nat)] | _=>.non) (ok:=fun σ=>∃v,σ=[some (.ref a),some (.int (heads:Int)),some (.int (told:Int)),some (.int (g:Int)),some (.ref p),some (.int (left:Int)),some (.int (step:Int)),some (.int (come:Int)),some (.ref b),v9,v]) [] _ ⟨none,rfl⟩ ?_ ?_
 ·intro d hd σ acc' rest ⟨v,hv⟩ kk
  subst hv;obtain⟨f,hf,rfl⟩:=List.mem_map.1 hd;obtain⟨⟨f',r⟩,hx,rfl⟩:=List.mem_map.1 ((h4 f).1 hf);have hv:=qu f' F.1 hx;have hr:=((F.2 _ _).1 hx).2;rw[aQ];simp! only[List.set,e3 b _ hb,hv];refine⟨g3,?_⟩
  have:=kk [some (.ref a),some (.int (heads:Int)),some (.int (told:Int)),some (.int (g:Int)),some (.ref p),some (.int (left:Int)),some (.int (step:Int)),some (.int (come:Int)),some (.ref b),v9,some (.int (f':Int))] ⟨_,rfl⟩
  dsimp only at this;rw[Int.toNat_natCast,hr] at this;exact this
 intro p4 hp4;have hmap:([]++(nats ns).map fun d=>match d with | .int i=>D.tup [.int i,.int (step:Int),.int ((bv rows come g i.toNat).getD 0:Nat)] | _=>.non)=(ay rows come g left).map fun x=>rR (x.1,step,x.2):=by
  rw[List.nil_append,hns,yp,List.map_map,List.map_map];unfold nats;rw[List.map_map];rw[show((fun(x:Nat×Nat)=>x.1)∘fun f=>(f,(bv rows come g f).getD 0))=id from rfl,List.map_id];rfl
 rw[hmap];have hln:((ay rows come g left).map fun x=>rR (x.1,step,x.2)).length<=64:=by
  have h5:ns.length=(ay rows come g left).length:=by rw[hns,List.length_map]
  have h6:ns.length<=m:=c6 (h3.imp fun h=>Nat.ne_of_lt h) fun f hf=>hfm f ((h4 f).1 hf)
  rw[List.length_map];omega
 generalize hnw:((ay rows come g left).map fun x=>rR (x.1,step,x.2))=new at *;have e4:=e3.trans (Ext.new (o:=MO.lst new) hp4);have g4:updM M3 p4 (MO.lst new) p4=some (.lst new):=ab;generalize updM M3 p4 (MO.lst new)=M4 at *;simp only[e4 p _ hp,g4];refine⟨by omega,?_⟩;have e5:Ext M0 (updM M4 p (.lst (acc++new))):=(e0.trans e4).put hp0;have g5:updM M4 p (MO.lst (acc++new)) p=some (.lst (acc++new)):=ab;have hbp:b≠p:=fun z=>by subst z;rw[hp] at hb;cases hb
 have b5:updM M4 p (MO.lst (acc++new)) b=some (.dic (aZ fr)):=by rw[aH hbp];exact e4 _ _ hb
 generalize updM M4 p (MO.lst (acc++new))=M5 at *;clear e4 g4 hp4 e3 g3 hp2 hmap h1 h2 hns h3 h4 hb hp e0;clear M3 M4 M;unfold li;simp! only[List.set,f2];refine⟨.ref b,fr.map (·.1),updM M5 b (.rod (aZ fr)),rfl,.inr ⟨b,rfl,.inr ⟨aZ fr,vj fr,.inl ⟨b5,rfl⟩⟩⟩,fun f hf=>by have:=hfm f hf;omega,?_⟩;have e6:Ext M0 (updM M5 b (.rod (aZ fr))):=e5.put hb0;have b6:updM M5 b (MO.rod (aZ fr)) b=some (.rod (aZ fr)):=ab;have g6:updM M5 b (MO.rod (aZ fr)) p=some (.lst (acc++new)):=by rw[aH hbp.symm];exact g5
 generalize updM M5 b (MO.rod (aZ fr))=M6 at *;unfold lh;simp! only[List.set,fZ];unfold lg;simp! only[wInv,List.set,bF];unfold lf;simp! only[List.set];unfold ld;simp! only[List.set,f0,f1];refine⟨a,m,rows,b,aZ fr,fr.map (·.1),_,rfl,A.ext e6,hn,b6,vj fr,hfm,fun p7 ns7 M7 hp7 e7 g7 s7 r7=>?_⟩;refine⟨a,m,rows,p7,ns7,_,g,rfl,A.ext (e6.trans e7),g7,fun r hr=>?_,fun p8 fr8 M8 hp8 e8 g8 n8 r8=>?_⟩
 ·obtain⟨x,hx,_⟩:=(r7 r).1 hr
  exact(List.getElem?_eq_some_iff.mp hx).1
 have:=k p8 fr8 (some (.int (setN (fr.map (·.1)):Nat))) M8 ((e6.trans e7).trans e8) ((e6.trans e7).free hp8) ((e7.trans e8) _ _ g6) g8
 rw[hnew] at this;exact this ⟨n8,fun f r=>(r8 f r).trans (EZ A.ok F s7 r7 f r)⟩
end
end SH
namespace SH
open PySem L2 DD
theorem Cy{m:Nat}{rows:List Row}{g told heads:Nat}(h1:told<2 ^ m)(h2:heads<2 ^ m):(jW rows g told heads).length<=2*m:=by
 unfold jW;rw[List.length_append,List.length_map,List.length_map];have a:=AD h1;obtain⟨nd,hf⟩:=lH (rows:=rows) (g:=g) (ac heads told+1) 1 told (ac heads told);have b:=c6 (n:=m) nd fun f q=>eB h2 (by have:=hf f q;rw[aN,Bool.and_eq_true] at this;exact this.1)
 rw[List.length_map] at b;omega
section
variable {cn : Cn} {c : CA} {S : Addr} {ds : List D} {M : MH} {Q : DK}
theorem GH (f0:cn.F.getD 0 (fun _ _ _=>False) = dE c S) (f1:cn.F.getD 1 (fun _ _ _=>False) = gf c S) (f2:cn.F.getD 2 (fun _ _ _=>False) = jT) (f3:cn.F.getD 3 (fun _ _ _=>False) = mH c S) (f4:cn.F.getD 4 (fun _ _ _=>False) = bY)
  (h:oJ c S ds M Q):wSs cn fF (fin Q) (ag ["", "", "", "", "", "", "", "", "", ""] ds) M:=by
 obtain ⟨a,m,rows,heads,told,g,rfl,A,hn,hm,hh,ht,q⟩:=h
 show wSs cn fF (fin Q) [some (.ref a),some (.int (heads:Int)),some (.int (told:Int)),some (.int (g:Int)),none,none,none,none,none,none] M
 have tot:=Cy (rows:=rows) (g:=g) ht hh
 unfold fF
 simp! only [List.cons_append,List.nil_append,List.replicate,f4]
 refine ⟨told,rfl,Nat.lt_of_lt_of_le ht (Nat.pow_le_pow_right (by decide) (by omega)),fun p0 M1 hp0 e1 g1=>?_⟩
 simp only [g1]
 refine fW (f:=fun d=>.tup [d,.int 0,.non]) (ok:=fun σ=>∃ v,σ = [some (.ref a),some (.int (heads:Int)),some (.int (told:Int)),some (.int (g:Int)),none,none,none,none,none,none,v]) [] _ ⟨none,rfl⟩ ?_ ?_
 ·intro d hd σ acc' rest ⟨v,hv⟩ kk
  subst hv
  exact ⟨g1,kk _ ⟨_,rfl⟩⟩
 intro p hp
 have hmap:([] ++ (nats (memb told)).map fun d=>D.tup [d,.int 0,.non]) = (memb told).map oI:=by
  rw [List.nil_append]; unfold nats; rw [List.map_map]; rfl
 rw [hmap]
 have e2:Ext M (updM M1 p (.lst ((memb told).map oI))):=e1.then hp
 have g2:updM M1 p (MO.lst ((memb told).map oI)) p = some (.lst ((memb told).map oI)):=ab
 have hpn:M p = none:=e1.free hp
 generalize updM M1 p (MO.lst ((memb told).map oI)) = M2 at *
 clear hp e1 g1 hp0
 clear M1
 unfold kS
 simp! only [wInv,List.set,bF]
 unfold kR
 simp! only [List.set]
 unfold lq
 simp! only [List.set]
 unfold lm
 simp! only [List.set,f0,f3]
 have hl:ac heads told < 2 ^ m:=by have:=dR heads told; omega
 refine ⟨a,m,rows,ac heads told,rfl,A.ext e2,hn,hl,fun p3 ns M3 hp3 e3 g3 s3 r3=>?_⟩
 refine ⟨a,m,rows,p3,ns,told,g,rfl,A.ext (e2.trans e3),g3,fun r hr=>?_,fun b fr M4 hb e4 g4 n4 r4=>?_⟩
 ·obtain ⟨x,hx,_⟩:=(r3 r).1 hr
  exact (List.getElem?_eq_some_iff.mp hx).1
 have F4:gz rows told g (ac heads told) fr:=⟨n4,fun f r=>(r4 f r).trans (AF s3 (fun r hr=>(r3 r).1 hr) (fun f r h1 h2=>by
  obtain ⟨x,hx,rfl,_⟩:=jV.1 h2
  exact (r3 r).2 ⟨x,hx,h1⟩) f r)⟩
 have hbn:M b = none:=(e2.trans e3).free hb
 have e5:Ext M M4:=(e2.trans e3).trans e4
 have g5:M4 p = some (.lst ((memb told).map oI)):=(e3.trans e4) _ _ g2
 unfold lj
 show kG _ _ _ _ _
 refine ⟨fun k σ M'=>∃ (left step come:Nat) (b:Addr) (fr:List (Nat × Nat)) (v9:Option D) (acc:List D),left = k/\σ = [some (.ref a),some (.int (heads:Int)),some (.int (told:Int)),some (.int (g:Int)),some (.ref p),some (.int (left:Int)),some (.int (step:Int)),some (.int (come:Int)),some (.ref b),v9] /\
  Ext M M'/\M b = none/\M' p = some (.lst acc)/\M' b = some (.dic (aZ fr))/\gz rows come g left fr/\left < 2 ^ m/\acc ++ (bS rows g (left + 1) step come left).map rR = jW rows g told heads,?_,?_⟩
 ·exact ⟨_,ac heads told,1,told,b,fr,none,_,rfl,rfl,e5,hbn,g5,g4,F4,hl,rfl⟩
 rintro k σ M' ⟨left,step,come,b,fr,v9,acc,rfl,rfl,e6,hb6,g6,d6,F6,hl6,h6⟩
 have hlen6:=congrArg List.length h6
 rw [List.length_append] at hlen6
 have hgt:∀ K:Bool->MH->Prop,K (decide (0 < (fr.length:Int))) M'->wT cn (.cmp .Gt (.bi .len (.cons (.var 8) .nil)) (.int 0)) [some (.ref a),some (.int (heads:Int)),some (.int (told:Int)),some (.int (g:Int)),some (.ref p),some (.int (left:Int)),some (.int (step:Int)),some (.int (come:Int)),some (.ref b),v9] M' K:=by
  intro K hK
  simp! only [List.set,d6]
  rw [show (aZ fr).length = fr.length by unfold aZ; rw [List.length_map]]
  exact hK
 refine hgt _ ?_
 by_cases hz:fr.length = 0
 ·rw [decide_eq_false (by omega)]
  have hno:=F6.nil hz
  rw [bS,if_pos hno,List.map_nil,List.append_nil] at h6
  rw [aM]
  dsimp only
  unfold lc
  simp! only [List.set]
  refine q p M' hpn e6 ?_
  rw [g6,h6]
 ·rw [decide_eq_true (by omega)]
  have hne:ay rows come g left ≠ []:=fun z=>by
   have hx:fr ≠ []:=fun w=>hz (by rw [w]; rfl)
   obtain ⟨x,hx⟩:=List.exists_mem_of_ne_nil _ hx
   have:=(F6.mem x.1).1 (List.mem_map.2 ⟨x,hx,rfl⟩)
   rw [z] at this; cases this
  have hlt:=oF hne
  rw [aU]
  refine ⟨fun σ' M''=>∃ k',k' < left/\_,fun σ' M'' h=>h,?_⟩
  refine GG f0 f1 f2 A hn hm hl6 e6 hpn hb6 g6 d6 F6 (by omega) ?_
  intro b' fr' w9 M'' e7 hb7 g7 d7 F7
  refine ⟨_,hlt,_,step + 1,_,b',fr',w9,_,rfl,rfl,e7,hb7,g7,d7,F7,by omega,?_⟩
  have r1:bS rows g (left + 1) step come left = (ay rows come g left).map (fun x=>(x.1,step,x.2)) ++ bS rows g left (step + 1) (come ||| newB (ay rows come g left)) (ac left (newB (ay rows come g left))):=by rw [bS,if_neg hne]
  rw [← h6,r1,List.map_append,List.map_map,List.append_assoc,yq (ac left (newB (ay rows come g left)) + 1) left _ _ _ (by omega) hlt]
  rfl
theorem xj(f0:cn.F.getD 0 (fun _ _ _=>False)=jT)(f1:cn.F.getD 1 (fun _ _ _=>False)=oJ c S)(h:dF c S ds M Q):wSs cn gy (fin Q) (ag ["", "", "", ""] ds) M:=by
 obtain⟨a,m,rows,heads,told,g,rfl,A,hn,hm,hh,ht,q⟩:=h;show wSs cn gy (fin Q) [some (.ref a),some (.int (heads:Int)),some (.int (told:Int)),some (.int (g:Int))] M;unfold gy;simp! only[List.cons_append,List.nil_append,List.replicate,f0,f1];refine⟨a,m,rows,heads,told,g,rfl,A,hn,hm,hh,ht,fun p M1 hp e1 g1=>?_⟩;simp only[g1];have hall:∀d∈jW rows g told heads,∃(f:Nat) (r:List D),d=.tup (.int (f:Int)::r):=by
  intro d hd;rcases List.mem_append.1 hd with hd | hd
  ·obtain⟨f,_,rfl⟩:=List.mem_map.1 hd
   exact⟨f,_,rfl⟩
  ·obtain⟨x,_,rfl⟩:=List.mem_map.1 hd
   exact⟨x.1,_,rfl⟩
 refine fW (f:=fun d=>match d with | .tup (h::_)=>h | _=>.non) (ok:=fun σ=>∃v,σ=[some (.ref a),some (.int (heads:Int)),some (.int (told:Int)),some (.int (g:Int)),v]) [] _ ⟨none,rfl⟩ ?_ ?_
 ·intro d hd σ acc' rest ⟨v,hv⟩ kk
  subst hv;obtain⟨f,r,rfl⟩:=hall d hd;rw[aQ];simp! only[List.set,at0];exact⟨g1,kk _ ⟨_,rfl⟩⟩
 intro p2 hp2;have hmap:([]++(jW rows g told heads).map fun d=>match d with | .tup (h::_)=>h | _=>.non)=nats (memb told++(bS rows g (ac heads told+1) 1 told (ac heads told)).map (·.1)):=by
  rw[List.nil_append];unfold jW nats;rw[List.map_append,List.map_append,List.map_map,List.map_map,List.map_map];rfl
 rw[hmap];refine⟨.ref p2,_,_,rfl,.inr ⟨p2,rfl,.inl ⟨ab,rfl⟩⟩,?_,?_⟩
 ·intro f hf
  rcases List.mem_append.1 hf with hf | hf
  ·have:=eB ht ((br _ _).1 hf);omega
  ·have:=(lH _ _ _ _).2 f hf
   rw[aN,Bool.and_eq_true] at this
   have:=eB hh this.1
   omega
 ·have:setN (memb told++(bS rows g (ac heads told+1) 1 told (ac heads told)).map (·.1))=cv rows g told heads:=by
   refine Nat.eq_of_testBit_eq fun f=>?_
   unfold cv;rw[Nat.testBit_or,bq,bq];cases e:told.testBit f with
   |true=>rw[Bool.true_or];exact decide_eq_true (List.mem_append.2 (.inl ((br _ _).2 e)))
   |false=>
    rw[Bool.false_or];refine decide_eq_decide.2 ⟨fun h=>?_,fun h=>List.mem_append.2 (.inr h)⟩;rcases List.mem_append.1 h with h | h
    ·rw[(br _ _).1 h] at e;cases e
    ·exact h
  rw[this];exact q _ (e1.then hp2)
end
end SH
namespace SH
open PySem L2 DD
def cellAt(ns:List Int)(k:Nat):Int:=(ns[k]?).getD 0
def c7:SpD:=fun ds M Q=>∃(a:Addr) (ns:List Int) (k:Nat),ds=[.ref a,.int (k:Int)]/\M a=some (.rol (ns.map .int))/\Q (.int (cellAt ns k)) M
def ny:SpD:=fun ds M Q=>∃(p:Addr) (b k:Int) (m:Nat),ds=[.ref p,.int (m:Int)]/\M p=some (.lst [.int b,.int k])/\(0<m/\m<1000)/\∀(v:Nat) (b':Int),v<m->Q (.int (v:Int)) (updM M p (.lst [.int b',.int k]))
def Kj:SpD:=fun ds M Q=>∃i:Int,ds=[.int i]/\Q (.bl true) M
structure Box2 (p:Addr) (k:Int) (M M':MH) (b:Int):Prop where
 but:ExtBut p M M'
 at_:M' p=some (.lst [.int b,.int k])
theorem ExtBut.put{p r:Addr}{o:MO}{M M':MH}(h:ExtBut p M M')(hr:M r=none):ExtBut p M (updM M' r o):=fun a u n q=>by
 have:a≠r:=fun z=>by subst z;rw[hr] at q;cases q
 rw[aH this];exact h a u n q
theorem Box2.draw{p:Addr}{k b:Int}{M M':MH}(h:Box2 p k M M' b)(b':Int):Box2 p k M (updM M' p (.lst [.int b',.int k])) b':=⟨h.but.trans (ExtBut.upd _ _ _),ab⟩
theorem Box2.ext{p:Addr}{k b:Int}{M M' M'':MH}(h:Box2 p k M M' b)(e:Ext M' M''):Box2 p k M M'' b:=⟨h.but.trans e.but,e _ _ h.at_⟩
theorem Box2.put{p r:Addr}{k b:Int}{o:MO}{M M':MH}(h:Box2 p k M M' b)(hr:M r=none)(hp:M p≠none):Box2 p k M (updM M' r o) b:=⟨h.but.put hr,by
 have:p≠r:=fun z=>by subst z;exact hp hr
 rw[aH this];exact h.at_⟩
def mh:Ss:=.cons (.ret (.int 0)) .nil
def gA:Ss:=.cons (.ite (.cmp .Lt (.var 1) (.bi .len (.cons (.var 0) .nil))) (.cons (.ret (.ix (.var 0) (.var 1))) .nil) .nil) mh
def o4:Ss:=.cons (.ret (.bin .Mod (.bin .Mod (.bin .Mult (.var 3) (.var 3)) (.int 2147483587)) (.var 1))) .nil
def o5:Ss:=.cons (.set 3 (.bin .Mod (.bin .Add (.bin .Mult (.ix (.var 0) (.int 0)) (.ix (.var 0) (.int 0))) (.int 12345)) (.int 2147483629))) o4
def o6:Ss:=.cons (.putIx (.var 0) (.int 0) (.bin .Mod (.bin .Add (.bin .Mult (.ix (.var 0) (.int 0)) (.int 48271)) (.int 7919)) (.int 2147483647))) o5
def o7:Ss:=.cons (.ret (.var 2)) .nil
def o8:Ss:=.cons (.putIx (.var 0) (.int 0) (.bin .FloorDiv (.ix (.var 0) (.int 0)) (.var 1))) o7
def kg:Ss:=.cons (.ite (.cmp .Eq (.bin .Mod (.ix (.var 0) (.int 1)) (.int 2)) (.int 1)) (.cons (.set 2 (.bin .Mod (.ix (.var 0) (.int 0)) (.var 1))) o8) .nil) o6
def nA:Ss:=.cons (.ret (.and (.bi .isinst (.cons (.var 0) (.cons (.ty "int") .nil))) (.not (.bi .isinst (.cons (.var 0) (.cons (.ty "bool") .nil)))))) .nil
def gB:Ss:=.cons (.ite (.or (.cmp .Is (.var 0) .non) (.val (.bi .isinst (.cons (.var 0) (.cons (.ty "str") .nil))))) (.cons (.ret (.bl true)) .nil) .nil) nA
def jX:Ss:=.cons (.ret (.bl true)) .nil
def gC:Ss:=.cons (.ite (.not (.val (.fn 0 (.cons (.var 1) .nil)))) (.cons (.ret (.bl false)) .nil) .nil) .nil
def bc:Ss:=.cons (.ite (.val (.bi .isinst (.cons (.var 0) (.cons (.tup (.cons (.ty "tuple") (.cons (.ty "list") .nil))) .nil)))) (.cons (.for (.nm 1) (.seq (.var 0)) gC) jX) .nil) gB
theorem modB{y m:Int}(h:0<m):0<=y%m/\y%m<m:=⟨Int.emod_nonneg _ (by omega),Int.emod_lt_of_pos _ h⟩
theorem ix00(x y:D):atI [x,y] 0=some x:=at0 x [y]
theorem ix01(x y:D):atI [x,y] 1=some y:=at1 x y []
theorem IL(x y:D):ixN ([x,y]:List D).length 0=some 0:=rfl
section
variable {cn : Cn} {ds : List D} {M : MH} {Q : DK}
theorem E1(h:c7 ds M Q):wSs cn gA (fin Q) (ag ["", ""] ds) M:=by
 obtain⟨a,ns,k,rfl,hM,q⟩:=h;show wSs cn gA (fin Q) [some (.ref a),some (.int (k:Int))] M;unfold gA;simp! only[hM,List.length_map];unfold cellAt at q;refine Du (fun hlt=>?_) (fun hlt=>?_)
 ·have hk:k<ns.length:=by omega
  rw[gn (by rw[List.getElem?_map,List.getElem?_eq_getElem hk];rfl)];rw[List.getElem?_eq_getElem hk] at q;exact q
 ·have hk:ns.length<=k:=by omega
  rw[List.getElem?_eq_none hk] at q;unfold mh;simp! only[];exact q
theorem Kk(h:ny ds M Q):wSs cn kg (fin Q) (ag ["", "", "", ""] ds) M:=by
 obtain⟨p,b,k,m,rfl,hM,hm,q⟩:=h;show wSs cn kg (fin Q) [some (.ref p),some (.int (m:Int)),none,none] M;have done:∀(z b':Int),Q (.int (z%(m:Int))) (updM M p (.lst [.int b',.int k])):=by
  intro z b';have h1:=modB (y:=z) (m:=(m:Int)) (by omega)
  have:=q (z%(m:Int)).toNat b' (by omega)
  rwa [Int.toNat_of_nonneg h1.1] at this
 unfold kg;simp_all! only[List.set,hM,ix00,ix01];refine⟨by decide,?_⟩;refine Bif2 (fun _=>?_) (fun _=>?_)
 ·refine⟨by omega,?_⟩
  unfold o8;simp! only[List.set,hM,ix00,ix01,IL];refine⟨⟨by omega,by omega⟩,?_⟩;unfold o7;simp! only[List.set];exact done _ _
 ·unfold o6
  simp! only[List.set,hM,ix00,ix01,IL];refine⟨.inr ⟨by decide,by decide⟩,by decide,?_⟩;have b1:=modB (y:=b*48271+7919) (m:=2147483647) (by decide);generalize (b*48271+7919)%2147483647=y at *;unfold o5;simp! only[List.set,ab,ix00,ix01];refine⟨.inl ⟨by omega,by omega⟩,by decide,?_⟩;have b2:=modB (y:=y*y+12345) (m:=2147483629) (by decide);generalize (y*y+12345)%2147483629=z at *;unfold o4;simp! only[List.set];exact⟨.inl ⟨by omega,by omega⟩,by decide,by omega,done _ _⟩
theorem Ii(h:Kj ds M Q):wSs cn bc (fin Q) (ag ["", ""] ds) M:=by
 obtain⟨i,rfl,q⟩:=h;show wSs cn bc (fin Q) [some (.int i),none] M;unfold bc;simp! only[tyD,tysD];refine⟨by decide,?_⟩;show Bif false _ _;unfold gB;simp! only[tyD];refine⟨trivial,by decide,?_⟩;show Bif false _ _;unfold nA;simp! only[tyD];refine⟨by decide,?_⟩;show Bif true _ _;refine⟨by decide,?_⟩;exact q
end
end SH
namespace SH
open PySem L2 DD
def o9:Ss:=.cons (.ret (.tup (.cons (.str "lead") (.cons (.bi .tuple (.cons (.var 4) .nil)) (.cons (.fn 0 (.cons (.var 0) (.cons (.bi .len (.cons (.var 4) .nil)) .nil))) .nil))))) .nil
def im:Ss:=.cons (.ite (.cmp .Eq (.var 2) (.int 4)) (.cons (.ret (.tup (.cons (.str "some") (.cons (.bin .Add (.int 1) (.fn 0 (.cons (.var 0) (.cons (.bi .min (.cons (.int 6) (.cons (.bin .Add (.bi .len (.cons (.var 4) .nil)) (.int 1)) .nil))) .nil)))) (.cons (.bi .tuple (.cons (.var 4) .nil)) .nil))))) .nil) .nil) o9
def io:Ss:=.cons (.expr (.mt .append (.var 4) (.cons (.mt .pop (.var 3) (.cons (.fn 0 (.cons (.var 0) (.cons (.bi .len (.cons (.var 3) .nil)) .nil))) .nil)) .nil))) .nil
def pb:Ss:=.cons (.for (.nm 5) (.rg1 (.cons (.bin .Add (.int 1) (.fn 0 (.cons (.var 0) (.cons (.bi .min (.cons (.var 1) (.cons (.int 6) .nil))) .nil)))) .nil)) io) im
def pc:Ss:=.cons (.set 4 (.lst .nil)) pb
def ph:Ss:=.cons (.set 3 (.lrg (.cons (.var 1) .nil))) pc
def pi:Ss:=.cons (.ite (.cmp .Lt (.var 2) (.int 4)) (.cons (.ret (.tup (.cons (.ix (.lst (.cons (.str "have") (.cons (.str "lack") .nil))) (.bin .Mod (.var 2) (.int 2))) (.cons (.fn 0 (.cons (.var 0) (.cons (.var 1) .nil))) .nil)))) .nil) .nil) ph
def kh:Ss:=.cons (.set 2 (.fn 0 (.cons (.var 0) (.cons (.int 6) .nil)))) pi
def kT:SpD:=fun ds M Q=>∃(p:Addr) (b k:Int) (m:Nat),ds=[.ref p,.int (m:Int)]/\M p=some (.lst [.int b,.int k])/\(0<m/\m<64)/\∀(t:CT) M' b',t.fit (m:Int)->Box2 p k M M' b'->Q t.told M'
theorem eM(m:Nat):bo 0 (m:Int)=nats (List.range m):=by
 unfold bo nats;rw[show((m:Int)-0).toNat=m by omega];refine List.map_congr_left fun i _=>?_
 rw[Int.zero_add]
theorem kU(fs:List Nat):nats fs=intL (fs.map fun(f:Nat)=>(f:Int)):=by unfold nats intL;rw[List.map_map];rfl
theorem E2(ls:List Nat)(i:Nat):(nats ls).eraseIdx i=nats (ls.eraseIdx i):=by
 unfold nats;induction ls generalizing i with
 |nil=>rfl
 |cons a r ih=>
  cases i with
  |zero=>rfl
  |succ i=>rw[List.map_cons,List.eraseIdx_cons_succ,List.eraseIdx_cons_succ,List.map_cons,ih]
theorem vk{α:Type}:∀{l:List α}{i:Nat}{x:α},l[i]?=some x->(x::l.eraseIdx i).Perm l
 |[],_,_,h=>by simp at h
 |a::l,0,x,h=>by
  rw[List.getElem?_cons_zero] at h;cases h;exact List.Perm.refl _
 |a::l,i+1,x,h=>by
  rw[List.getElem?_cons_succ] at h;rw[List.eraseIdx_cons_succ];exact(List.Perm.swap _ _ _).trans ((vk h).cons a)
theorem Cz{fs:List Nat}(h:fs.Nodup):(fs.map fun(f:Nat)=>(f:Int)).Nodup:=by
 unfold List.Nodup;rw[List.pairwise_map];exact List.Pairwise.imp (fun h z=>h (by omega)) h
structure Drawn (m:Nat) (rs fs:List Nat):Prop where
 nd:(fs++rs).Nodup
 lt:∀f∈fs++rs,f<m
 len:fs.length+rs.length=m
theorem Drawn.pop{m:Nat}{rs fs:List Nat}{i x:Nat}(h:Drawn m rs fs)(hx:rs[i]?=some x):Drawn m (rs.eraseIdx i) (fs++[x]):=by
 have hp:(fs++[x]++rs.eraseIdx i).Perm (fs++rs):=by
  rw[List.append_assoc];exact List.Perm.append_left _ (vk hx)
 have hl:=hp.length_eq;refine⟨hp.nodup_iff.2 h.nd,fun f hf=>h.lt f (hp.mem_iff.1 hf),?_⟩
 have:=h.len
 simp only[List.length_append] at hl ⊢;omega
section
variable {cn : Cn} {ds : List D} {M : MH} {Q : DK}
theorem CB(f0:cn.F.getD 0 (fun _ _ _=>False)=ny)(h:kT ds M Q):wSs cn kh (fin Q) (ag ["", "", "", "", "", ""] ds) M:=by
 obtain⟨p,b,k,m,rfl,hM,hm,q⟩:=h;show wSs cn kh (fin Q) [some (.ref p),some (.int (m:Int)),none,none,none,none] M;have hpn:M p≠none:=by rw[hM];simp
 unfold kh;simp! only[List.set,f0];refine⟨p,b,k,6,rfl,hM,⟨by decide,by decide⟩,fun v b1 hv=>?_⟩;have B1:Box2 p k M (updM M p (.lst [.int b1,.int k])) b1:=⟨ExtBut.upd _ _ _,ab⟩;generalize updM M p (MO.lst [.int b1,.int k])=M1 at *;unfold pi;simp! only[List.set];refine Du (fun hlt=>?_) (fun hlt=>?_)
 ·intro p2 hp2
  have B2:Box2 p k M (updM M1 p2 (.lst [.str "have",.str "lack"])) b1:=B1.ext (Ext.new hp2);have g2:updM M1 p2 (MO.lst [.str "have",.str "lack"]) p2=some (.lst [.str "have",.str "lack"]):=ab;generalize updM M1 p2 (MO.lst [.str "have",.str "lack"])=M2 at *;simp only[g2];refine⟨by decide,?_⟩;have h2:(v:Int)%2=0\/(v:Int)%2=1:=by omega
  rcases h2 with h2 | h2
  ·rw[h2,ix00]
   simp only[f0];refine⟨p,b1,k,m,rfl,B2.at_,⟨hm.1,by omega⟩,fun w b3 hw=>?_⟩;exact q (.hav (w:Int)) _ b3 ⟨by omega,by omega⟩ (B2.draw b3)
  ·rw[h2,ix01]
   simp only[f0];refine⟨p,b1,k,m,rfl,B2.at_,⟨hm.1,by omega⟩,fun w b3 hw=>?_⟩;exact q (.lck (w:Int)) _ b3 ⟨by omega,by omega⟩ (B2.draw b3)
 ·unfold ph
  simp! only[List.set];refine⟨⟨by omega,by omega⟩,fun pr hpr=>?_⟩;rw[eM];have hprM:M pr=none:=by
   cases e:M pr with
   |none=>rfl
   |some o=>
    by_cases z:pr=p
    ·subst z;rw[B1.at_] at hpr;cases hpr
    ·rw[B1.but _ _ z e] at hpr;cases hpr
  have B2:Box2 p k M (updM M1 pr (.lst (nats (List.range m)))) b1:=B1.ext (Ext.new hpr);have g2:updM M1 pr (MO.lst (nats (List.range m))) pr=some (.lst (nats (List.range m))):=ab;generalize updM M1 pr (MO.lst (nats (List.range m)))=M2 at *;unfold pc;simp! only[List.set];intro pf hpf;have hpfM:M pf=none:=by
   cases e:M pf with
   |none=>rfl
   |some o=>
    by_cases z:pf=p
    ·subst z;rw[B2.at_] at hpf;cases hpf
    ·rw[B2.but _ _ z e] at hpf;cases hpf
  have B3:Box2 p k M (updM M2 pf (.lst [])) b1:=B2.ext (Ext.new hpf);have g3:updM M2 pf (MO.lst []) pf=some (.lst (nats [])):=ab;have r3:updM M2 pf (MO.lst []) pr=some (.lst (nats (List.range m))):=(Ext.new hpf) _ _ g2;have hne:pf≠pr:=fun z=>by subst z;rw[hpf] at g2;cases g2
  have hpp:p≠pr:=fun z=>by subst z;exact hpn hprM
  have hpp2:p≠pf:=fun z=>by subst z;exact hpn hpfM
  generalize updM M2 pf (MO.lst [])=M3 at *;clear B1 B2 g2 hpr hpf;clear M1 M2;have D3:Drawn m (List.range m) []:=⟨List.nodup_range,fun f hf=>by simpa using hf,by simp⟩;unfold pb;simp! only[List.set,f0];refine⟨p,b1,k,min m 6,?_,B3.at_,⟨by omega,by omega⟩,fun w b4 hw=>?_⟩
  ·congr 3
   split<;>omega
  have B4:=B3.draw b4;have g4:updM M3 p (MO.lst [.int b4,.int k]) pf=some (.lst (nats [])):=by rw[aH hpp2.symm];exact g3
  have r4:updM M3 p (MO.lst [.int b4,.int k]) pr=some (.lst (nats (List.range m))):=by rw[aH hpp.symm];exact r3
  generalize updM M3 p (MO.lst [.int b4,.int k])=M4 at *;clear B3 g3 r3;clear M3;refine⟨⟨by omega,by omega⟩,?_⟩;rw[show(1:Int)+(w:Int)=((w+1:Nat):Int) by omega,eM];have hw1:w+1<=m/\w+1<=6:=by omega
  have last:∀(fs rs:List Nat) (v5:Option D) (b5:Int) (M5:MH),fs.length=w+1->Drawn m rs fs->Box2 p k M M5 b5->M5 pf=some (.lst (nats fs))->wSs cn im (fin Q) [some (.ref p),some (.int (m:Int)),some (.int (v:Int)),some (.ref pr),some (.ref pf),v5] M5:=by
   intro fs rs v5 b5 M5 hfl D5 B5 g5;have fit:∀f∈fs.map (fun(f:Nat)=>(f:Int)),0<=f/\f<(m:Int):=by
    intro f hf;obtain⟨g,hg,rfl⟩:=List.mem_map.1 hf
    have:=D5.lt g (List.mem_append.2 (.inl hg))
    omega
   have nd:(fs.map fun(f:Nat)=>(f:Int)).Nodup:=Cz (List.nodup_append.1 D5.nd).1;have ln:(fs.map fun(f:Nat)=>(f:Int)).length=fs.length:=List.length_map _;unfold im;simp! only[List.set,f0,g5,cG];refine⟨⟨rfl,rfl,(by decide:(0:Nat)<=30)⟩,?_⟩;refine Bif2 (fun _=>?_) (fun _=>?_)
   ·refine⟨p,b5,k,min 6 (fs.length+1),?_,B5.at_,⟨by omega,by omega⟩,fun n b6 hn=>?_⟩
    ·congr 3
     split<;>omega
    have g6:updM M5 p (MO.lst [.int b6,.int k]) pf=some (.lst (nats fs)):=by rw[aH hpp2.symm];exact g5
    simp only[g6,rdL,kU];refine q (.som (1+(n:Int)) _) _ b6 ⟨⟨by omega,by omega⟩,⟨by omega,by omega⟩,nd,fit⟩ (B5.draw b6)
   ·unfold o9
    simp! only[List.set,f0,g5,rdL,cG];refine⟨p,b5,k,fs.length,rfl,B5.at_,⟨by omega,by omega⟩,fun n b6 hn=>?_⟩;rw[kU];exact q (.led _ n) _ b6 ⟨⟨by omega,by omega⟩,nd,fit⟩ (B5.draw b6)
  have body:∀(E:EndsD) (fs rs:List Nat) (v5:Option D) (b5:Int) (M5:MH),Drawn m rs fs->0<rs.length->Box2 p k M M5 b5->M5 pf=some (.lst (nats fs))->M5 pr=some (.lst (nats rs)) ->
    (∀fs' rs' b6 M6,Drawn m rs' fs'->fs'.length=fs.length+1->Box2 p k M M6 b6->M6 pf=some (.lst (nats fs'))->M6 pr=some (.lst (nats rs'))->E.nx [some (.ref p),some (.int (m:Int)),some (.int (v:Int)),some (.ref pr),some (.ref pf),v5] M6) ->
    wSs cn io E [some (.ref p),some (.int (m:Int)),some (.int (v:Int)),some (.ref pr),some (.ref pf),v5] M5:=by
   intro E fs rs v5 b5 M5 D5 hrs B5 g5 r5 kk;have hfr:=D5.len;unfold io;simp! only[List.set,f0,g5,r5,cG];refine⟨rfl,rfl,p,b5,k,rs.length,rfl,B5.at_,⟨hrs,by omega⟩,fun i b6 hi=>?_⟩;have B6:=B5.draw b6;have g6:updM M5 p (MO.lst [.int b6,.int k]) pf=some (.lst (nats fs)):=by rw[aH hpp2.symm];exact g5
   have r6:updM M5 p (MO.lst [.int b6,.int k]) pr=some (.lst (nats rs)):=by rw[aH hpp.symm];exact r5
   generalize updM M5 p (MO.lst [.int b6,.int k])=M6 at *;have hx:rs[i]?=some rs[i]:=List.getElem?_eq_getElem hi;generalize rs[i]=x at hx;have hxn:(nats rs)[(i:Int).toNat]?=some (.int (x:Int)):=by unfold nats;rw[Int.toNat_natCast,List.getElem?_map,hx];rfl
   simp only[r6,hxn];refine⟨⟨by omega,by omega⟩,?_⟩;rw[Int.toNat_natCast,E2];have B7:Box2 p k M (updM M6 pr (.lst (nats (rs.eraseIdx i)))) b6:=B6.put hprM hpn;have g7:updM M6 pr (MO.lst (nats (rs.eraseIdx i))) pf=some (.lst (nats fs)):=by rw[aH hne];exact g6
   have r7:updM M6 pr (MO.lst (nats (rs.eraseIdx i))) pr=some (.lst (nats (rs.eraseIdx i))):=ab;generalize updM M6 pr (MO.lst (nats (rs.eraseIdx i)))=M7 at *;simp only[g7,cG];have hsz:(2000:Nat)<sizeLine:=by decide
   refine⟨by omega,?_⟩;rw[show nats fs++[D.int (x:Int)]=nats (fs++[x]) by unfold nats;rw[List.map_append];rfl];exact kk (fs++[x]) (rs.eraseIdx i) b6 _ (D5.pop hx) (by rw[List.length_append];rfl) (B7.put hpfM hpn) ab (by rw[aH hne.symm];exact r7)
  have key:∀(xs:List Nat) (fs rs:List Nat) (v5:Option D) (b5:Int) (M5:MH),fs.length+xs.length=w+1->Drawn m rs fs->Box2 p k M M5 b5->M5 pf=some (.lst (nats fs))->M5 pr=some (.lst (nats rs)) ->
    az (fun _=>True) (.nm 5) (wSs cn io) { nx:=wSs cn im (fin Q),rt:=Q } (nats xs) [some (.ref p),some (.int (m:Int)),some (.int (v:Int)),some (.ref pr),some (.ref pf),v5] M5:=by
   intro xs;induction xs with
   |nil=>
    intro fs rs v5 b5 M5 hl D5 B5 g5 r5;rw[show nats []=[] from rfl,az];exact last fs rs v5 b5 M5 (by simpa using hl) D5 B5 g5
   |cons x xs ih=>
    intro fs rs v5 b5 M5 hl D5 B5 g5 r5;rw[List.length_cons] at hl
    have:=D5.len
    rw[show nats (x::xs)=.int (x:Int)::nats xs from rfl,az];refine body _ fs rs _ b5 M5 D5 (by omega) B5 g5 r5 ?_;intro fs' rs' b6 M6 D6 h6 B6 g6 r6;exact⟨trivial,ih fs' rs' _ b6 M6 (by omega) D6 B6 g6 r6⟩
  exact key (List.range (w+1)) [] (List.range m) none b4 M4 (by simp) D3 B4 g4 r4
end
end SH
namespace SH
open PySem L2 DD
def ip:Ss:=.cons (.ret (.sl (.var 4) .no (.yes (.var 3)))) .nil
def pj:Ss:=.cons (.expr (.mt .append (.var 4) (.cons (.tup (.cons (.var 8) (.cons (.comp 1 (.fn 1 (.cons (.var 6) (.cons (.var 1) .nil))) (.nm 9) (.rg1 (.cons (.fn 0 (.cons (.var 6) (.cons (.int 4) .nil))) .nil)) .no) .nil))) .nil))) .nil
def iq:Ss:=.cons (.set 8 (.fn 0 (.cons (.var 6) (.cons (.var 1) .nil)))) pj
def pk:Ss:=.cons (.for (.nm 7) (.rg1 (.cons (.bin .Add (.int 1) (.fn 0 (.cons (.var 6) (.cons (.int 3) .nil)))) .nil)) iq) .nil
def iu:Ss:=.cons (.set 6 (.lst (.cons (.var 5) (.cons (.fn 2 (.cons (.var 0) (.cons (.int 1) .nil))) .nil)))) pk
def pq:Ss:=.cons (.for (.nm 5) (.seq (.sl (.var 0) (.yes (.var 2)) (.yes (.int 63)))) iu) ip
def kj:Ss:=.cons (.set 4 (.lst .nil)) pq
def mI:SpD:=fun ds M Q=>∃(a:Addr) (ns:List Int) (m from_ most:Nat),ds=[.ref a,.int (m:Int),.int (from_:Int),.int (most:Int)]/\M a=some (.rol (ns.map .int))/\(0<m/\m<64)/\most<=400 /\
 ∀p rds rows M',M' p=some (.lst rds)->aL M' rds rows->RowsOk m rows->rows.length<=most->Ext M M'->Q (.ref p) M'
def hid2(r p:Addr)(M:MH):MH:=fun b=>if b=r then none else if b=p then none else M b
section
variable {r p q : Addr} {M M' : MH} {o : MO}
theorem LX(r p:Addr)(M:MH)(o:MO):hid2 r p (updM M r o)=hid2 r p M:=by
 funext b;unfold hid2 updM;split<;>rfl
theorem t5(h:ExtBut p M M'):Ext (hid2 r p M) (hid2 r p M'):=fun b o q=>by
 unfold hid2 at q ⊢;split at q
 ·cases q
 ·rename_i n1
  rw[if_neg n1];split at q
  ·cases q
  ·rename_i n2
   rw[if_neg n2];exact h b o n2 q
theorem AG(h:Ext M M'):Ext (hid2 r p M) (hid2 r p M'):=t5 h.but
theorem Ij(r p:Addr)(M:MH):Ext (hid2 r p M) (hid r M):=fun b o q=>by
 unfold hid2 at q;unfold hid;split at q
 ·cases q
 ·rename_i n1
  rw[if_neg n1];split at q
  ·cases q
  ·exact q
theorem Ik(h:M p=none):Ext (hid r M) (hid2 r p M):=fun b o q=>by
 unfold hid at q;unfold hid2;split at q
 ·cases q
 ·rename_i n1
  rw[if_neg n1];have:b≠p:=bK q h
  rw[if_neg this];exact q
theorem Kl(n1:q≠r)(n2:q≠p):hid2 r p M q=M q:=by
 unfold hid2;rw[if_neg n1,if_neg n2]
end
def qv(m:Nat)(rows:List Row):Prop:=∀x∈rows,x.1<m/\x.2.length<=6/\∀t∈x.2,t.fit (m:Int)
theorem qv.add{m:Nat}{rows:List Row}{x:Row}(h:qv m rows)(h1:x.1<m)(h2:x.2.length<=6)(h3:∀t∈x.2,t.fit (m:Int)):qv m (rows++[x]):=fun y hy=>by
 rcases List.mem_append.1 hy with hy | hy
 ·exact h y hy
 ·have:y=x:=by simpa using hy
  subst this;exact⟨h1,h2,h3⟩
theorem Km{α:Type}(xs:List α)(a b:Nat):(cutL xs (some (a:Int)) (some (b:Int))).length<=b:=by
 unfold cutL;rw[HT.wR,HT.wR,List.length_take];omega
theorem Kn{α:Type}{xs:List α}{lo hi:Option Int}{x:α}(h:x∈cutL xs lo hi):x∈xs:=List.mem_of_mem_drop (List.mem_of_mem_take h)
structure RowsSt (m:Nat) (R:Addr) (M2 M5:MH) (n:Nat):Prop where
 but:ExtBut R M2 M5
 ex:∃rds rows,M5 R=some (.lst rds)/\aL (hid R M5) rds rows/\qv m rows/\rows.length<=n
structure RowsSt2 (m:Nat) (R p:Addr) (k:Int) (M2 M5:MH) (n:Nat):Prop where
 but:ExtBut R M2 M5
 box:∃b,M5 p=some (.lst [.int b,.int k])
 ex:∃rds rows,M5 R=some (.lst rds)/\aL (hid2 R p M5) rds rows/\qv m rows/\rows.length<=n
section
variable {cn : Cn} {ds : List D} {M : MH} {Q : DK}
theorem CC(f0:cn.F.getD 0 (fun _ _ _=>False)=ny)(f1:cn.F.getD 1 (fun _ _ _=>False)=kT)(f2:cn.F.getD 2 (fun _ _ _=>False)=c7)(h:mI ds M Q):wSs cn kj (fin Q) (ag ["", "", "", "", "", "", "", "", ""] ds) M:=by
 obtain⟨a,ns,m,from_,most,rfl,hM,hm,hmost,q⟩:=h;show wSs cn kj (fin Q) [some (.ref a),some (.int (m:Int)),some (.int (from_:Int)),some (.int (most:Int)),none,none,none,none,none] M;have hsz:(2000:Nat)<sizeLine:=by decide
 unfold kj;simp! only[List.set];intro R hR;have e1:Ext M (updM M R (.lst [])):=Ext.new hR;have g1:updM M R (MO.lst []) R=some (.lst []):=ab;generalize updM M R (MO.lst [])=M1 at *;have ha1:=e1 _ _ hM;unfold pq;simp! only[List.set,ha1,rdL];intro L hL;have hLR:L≠R:=(bK g1 hL).symm;have hc1:(cutL (ns.map D.int) (some (from_:Int)) (some (63:Int))).length<=63:=Km _ from_ 63;have hc2:∀d∈cutL (ns.map D.int) (some (from_:Int)) (some (63:Int)),∃c,d=D.int c:=fun d hd=>by
  obtain⟨c,-,rfl⟩:=List.mem_map.1 (Kn hd);exact⟨c,rfl⟩
 generalize cutL (ns.map D.int) (some (from_:Int)) (some (63:Int))=cells at *;have e2:Ext M1 (updM M1 L (.lst cells)):=Ext.new hL;have g2:updM M1 L (MO.lst cells) L=some (.lst cells):=ab;generalize updM M1 L (MO.lst cells)=M2 at *;have ha2:=e2 _ _ ha1;have r2:=e2 _ _ g1;have e02:Ext M M2:=e1.trans e2;simp only[g2];clear e1 e2 g1 ha1 hL;clear M1;have hRn:M2 R≠none:=by rw[r2];simp
 have hRa:a≠R:=bK hM hR;have last:∀(v5 v6 v7 v8:Option D) (M5:MH) (n:Nat),RowsSt m R M2 M5 n->wSs cn ip (fin Q) [some (.ref a),some (.int (m:Int)),some (.int (from_:Int)),some (.int (most:Int)),some (.ref R),v5,v6,v7,v8] M5:=by
  intro v5 v6 v7 v8 M5 n ⟨hb,rds,rows,h1,h2,h3,h4⟩;unfold ip;simp! only[List.set,h1,rdL,cutK];intro p hp;have lt:(rows.take most).length<=most:=by rw[List.length_take];omega
  refine q p _ (rows.take most) _ ab (aL.ext ((cR R M5).trans (Ext.new hp)) (rf most h2)) ⟨by omega,by omega,fun x hx=>h3 x (List.mem_of_mem_take hx)⟩ lt ?_;intro b o hbo;have hbR:b≠R:=bK hbo hR;exact Ext.new hp _ _ (hb b o hbR (e02 b o hbo))
 -- one row
 have row:∀(E:EndsD) (p:Addr) (k:Int) (v5 v7 v8:Option D) (M5:MH) (n:Nat),p≠R->M2 p=none->n<2000->RowsSt2 m R p k M2 M5 n ->
   (∀v8' M6,RowsSt2 m R p k M2 M6 (n+1)->E.nx [some (.ref a),some (.int (m:Int)),some (.int (from_:Int)),some (.int (most:Int)),some (.ref R),v5,some (.ref p),v7,v8'] M6) ->
   wSs cn iq E [some (.ref a),some (.int (m:Int)),some (.int (from_:Int)),some (.int (most:Int)),some (.ref R),v5,some (.ref p),v7,v8] M5:=by
  intro E p k v5 v7 v8 M5 n hpR hp2 hn ⟨hb,⟨b,hbox⟩,rds,rows,h1,h2,h3,h4⟩ kk;unfold iq;simp! only[List.set,f0];refine⟨p,b,k,m,rfl,hbox,⟨hm.1,by omega⟩,fun hd b6 hhd=>?_⟩;have B6:Box2 p k M5 (updM M5 p (.lst [.int b6,.int k])) b6:=⟨ExtBut.upd _ _ _,ab⟩;generalize updM M5 p (MO.lst [.int b6,.int k])=M6 at *;unfold pj;have h16:=B6.but _ _ hpR.symm h1;simp! only[List.set,List.cons_append,List.nil_append,List.replicate,f0,h16];refine⟨rfl,p,b6,k,4,rfl,B6.at_,⟨by decide,by decide⟩,fun nc b7 hnc=>?_⟩;have B7:=B6.draw b7;generalize updM M6 p (MO.lst [.int b7,.int k])=M7 at *;refine⟨⟨by omega,by omega⟩,?_⟩;rw[eM];clear B6 h16;clear M6;have conds:∀(F:List D->MH->Prop),(∀(ts:List CT) M8 b8,ts.length<=6->(∀t∈ts,CT.fit (m:Int) t)->Box2 p k M5 M8 b8->F (ts.map CT.told) M8) ->
    ∀(xs:List Nat) (ts:List CT) (v9:Option D) (M8:MH) (b8:Int),ts.length+xs.length<=6->(∀t∈ts,CT.fit (m:Int) t)->Box2 p k M5 M8 b8 ->
    aQ (fun _=>True) (.nm 9) (wTo cn .no) (wE cn (.fn 1 (.cons (.var 6) (.cons (.var 1) .nil)))) F (nats xs) (ts.map CT.told) [some (.ref a),some (.int (m:Int)),some (.int (from_:Int)),some (.int (most:Int)),some (.ref R),v5,some (.ref p),v7,some (.int (hd:Int)),v9] M8:=by
   intro F hF xs;induction xs with
   |nil=>
    intro ts v9 M8 b8 hl ht B8;rw[show nats []=[] from rfl,aQ];exact hF ts M8 b8 (by simpa using hl) ht B8
   |cons x xs ih=>
    intro ts v9 M8 b8 hl ht B8;rw[List.length_cons] at hl;rw[show nats (x::xs)=.int (x:Int)::nats xs from rfl,aQ];have go:kT [.ref p,.int (m:Int)] M8 (fun y M2=>True/\aQ (fun _=>True) (.nm 9) (wTo cn .no) (wE cn (.fn 1 (.cons (.var 6) (.cons (.var 1) .nil)))) F (nats xs) (ts.map CT.told++[y]) [some (.ref a),some (.int (m:Int)),some (.int (from_:Int)),some (.int (most:Int)),some (.ref R),v5,some (.ref p),v7,some (.int (hd:Int)),some (.int (x:Int))] M2):=by
     refine⟨p,b8,k,m,rfl,B8.at_,hm,fun t M9 b9 ft B9=>⟨trivial,?_⟩⟩;rw[show ts.map CT.told++[t.told]=(ts++[t]).map CT.told by rw[List.map_append];rfl];refine ih (ts++[t]) _ M9 b9 (by rw[List.length_append];simp;omega) (fun t' ht'=>?_) ⟨B8.but.trans B9.but,B9.at_⟩;rcases List.mem_append.1 ht' with ht' | ht'
     ·exact ht t' ht'
     ·have:t'=t:=by simpa using ht'
      subst this;exact ft
    rw[←f1] at go;exact go
  refine conds _ ?_ (List.range nc) [] none M7 b7 (by simp;omega) (by simp) B7;intro ts M8 b8 hts ft B8 c hc;have h18:=B8.but _ _ hpR.symm h1;have e9:Ext M8 (updM M8 c (.lst (ts.map CT.told))):=Ext.new hc;have g9:updM M8 c (MO.lst (ts.map CT.told)) c=some (.lst (ts.map CT.told)):=ab;generalize updM M8 c (MO.lst (ts.map CT.told))=M9 at *;have h19:=e9 _ _ h18;have hcR:c≠R:=(bK h18 hc).symm;have hcp:c≠p:=(bK B8.at_ hc).symm;simp only[h19];have hrl:rds.length=rows.length:=kB h2;refine⟨by omega,?_⟩;refine kk _ _ ⟨?_,⟨b8,?_⟩,rds++[.tup [.int (hd:Int),.ref c]],rows++[(hd,ts)],ab,?_,h3.add hhd hts ft,by rw[List.length_append];simpa using h4⟩
  ·intro z o hz hzo
   have hzp:z≠p:=bK hzo hp2;rw[aH hz];exact e9 _ _ (B8.but _ _ hzp (hb _ _ hz hzo))
  ·rw[aH hpR];exact e9 _ _ B8.at_
  ·rw[LX]
   refine bd (aL.ext ((t5 B8.but).trans (AG e9)) h2) (.cons ⟨c,rfl,?_⟩ .nil);rw[Kl hcR hcp];exact g9
 -- one cell
 have cell:∀(E:EndsD) (x:Int) (v6 v7 v8:Option D) (M5:MH) (n:Nat),n<1000->RowsSt m R M2 M5 n ->
   (∀v6' v7' v8' M6,RowsSt m R M2 M6 (n+3)->E.nx [some (.ref a),some (.int (m:Int)),some (.int (from_:Int)),some (.int (most:Int)),some (.ref R),some (.int x),v6',v7',v8'] M6) ->
   wSs cn iu E [some (.ref a),some (.int (m:Int)),some (.int (from_:Int)),some (.int (most:Int)),some (.ref R),some (.int x),v6,v7,v8] M5:=by
  intro E x v6 v7 v8 M5 n hn ⟨hb,rds,rows,h1,h2,h3,h4⟩ kk;have ha5:=hb _ _ hRa ha2;unfold iu;simp! only[List.set,f2];refine⟨a,ns,1,rfl,ha5,?_⟩;generalize cellAt ns 1=k;intro p hp;have hpR:p≠R:=(bK h1 hp).symm;have hp2:M2 p=none:=by
   cases e:M2 p with
   |none=>rfl
   |some o=>rw[hb _ _ hpR e] at hp;cases hp
  have S6:RowsSt2 m R p k M2 (updM M5 p (.lst [.int x,.int k])) n:=by
   refine⟨hb.put hp2,⟨x,ab⟩,rds,rows,?_,?_,h3,h4⟩
   ·exact Ext.new hp _ _ h1
   ·exact aL.ext ((Ik hp).trans (AG (Ext.new hp))) h2
  generalize updM M5 p (MO.lst [.int x,.int k])=M6 at *;unfold pk;obtain⟨b6,hb6⟩:=S6.box;simp! only[List.set,f0];refine⟨p,b6,k,3,rfl,hb6,⟨by decide,by decide⟩,fun w b7 hw=>?_⟩;have S7:RowsSt2 m R p k M2 (updM M6 p (.lst [.int b7,.int k])) n:=by
   obtain⟨hb,-,rds,rows,h1,h2,h3,h4⟩:=S6;refine⟨hb.put hp2,⟨b7,ab⟩,rds,rows,?_,aL.ext (t5 (ExtBut.upd _ _ _)) h2,h3,h4⟩;rw[aH hpR.symm];exact h1
  generalize updM M6 p (MO.lst [.int b7,.int k])=M7 at *;refine⟨⟨by omega,by omega⟩,?_⟩;rw[show(1:Int)+(w:Int)=((w+1:Nat):Int) by omega,eM];have key:∀(xs:List Nat) (v7 v8:Option D) (M5:MH) (n':Nat),n'+xs.length<=n+3->RowsSt2 m R p k M2 M5 n' ->
    az (fun _=>True) (.nm 7) (wSs cn iq) E (nats xs) [some (.ref a),some (.int (m:Int)),some (.int (from_:Int)),some (.int (most:Int)),some (.ref R),some (.int x),some (.ref p),v7,v8] M5:=by
   intro xs;induction xs with
   |nil=>
    intro v7 v8 M5 n' hn' ⟨hb,_,rds,rows,h1,h2,h3,h4⟩;rw[show nats []=[] from rfl,az];exact kk _ _ _ _ ⟨hb,rds,rows,h1,aL.ext (Ij _ _ _) h2,h3,by simp at hn';omega⟩
   |cons y xs ih=>
    intro v7 v8 M5 n' hn' S;rw[List.length_cons] at hn';rw[show nats (y::xs)=.int (y:Int)::nats xs from rfl,az];refine row _ p k _ _ _ M5 n' hpR hp2 (by omega) S ?_;intro v8' M6 S6;exact⟨trivial,ih _ _ M6 (n'+1) (by omega) S6⟩
  exact key (List.range (w+1)) _ _ M7 n (by simp;omega) S7
 have key:∀(xs:List D) (v5 v6 v7 v8:Option D) (M5:MH) (n:Nat),(∀d∈xs,∃c,d=D.int c)->n+3*xs.length<=189->RowsSt m R M2 M5 n ->
   az (fun M'=>M' L=some (.lst cells)) (.nm 5) (wSs cn iu) { nx:=wSs cn ip (fin Q),rt:=Q } xs [some (.ref a),some (.int (m:Int)),some (.int (from_:Int)),some (.int (most:Int)),some (.ref R),v5,v6,v7,v8] M5:=by
  intro xs;induction xs with
  |nil=>
   intro v5 v6 v7 v8 M5 n _ _ S;rw[az];exact last v5 v6 v7 v8 M5 n S
  |cons d xs ih=>
   intro v5 v6 v7 v8 M5 n hd hn S;rw[List.length_cons] at hn;obtain⟨c,rfl⟩:=hd d (.head _);rw[az];refine cell _ c _ _ _ M5 n (by omega) S ?_;intro v6' v7' v8' M6 S6;exact⟨S6.but _ _ hLR g2,ih _ _ _ _ M6 (n+3) (fun d hd'=>hd d (.tail _ hd')) (by omega) S6⟩
 refine key cells none none none none M2 0 hc2 (by omega) ⟨ExtBut.refl _ _,[],[],r2,.nil,fun x hx=>(by cases hx),Nat.le_refl _⟩
end
end SH
namespace SH
open PySem L2 DD
def pv:Ss:=.cons (.ret (.bin .BitAnd (.bin .Mod (.var 2) (.bin .LShift (.int 1) (.var 1))) (.bin .Mod (.bin .FloorDiv (.var 2) (.bin .LShift (.int 1) (.var 1))) (.bin .LShift (.int 1) (.var 1))))) .nil
def kl:Ss:=.cons (.set 2 (.fn 0 (.cons (.var 0) (.cons (.int 2) .nil)))) pv
def jk:Ss:=.cons (.ret (.fn 0 (.cons (.var 0) (.cons (.comp 2 (.tup (.cons (.var 2) (.cons (.bk .list (.cons (.var 3) .nil)) .nil))) (.tp [2,3]) (.seq (.var 1)) .no) .nil)))) .nil
def iL:Ss:=.cons (.ret (.and (.cmp .Eq (.bin .BitAnd (.bin .RShift (.var 1) (.ix (.ix (.var 0) (.int 1)) (.ix (.var 0) (.int 2)))) (.int 1)) (.int 1)) (.cmp .Eq (.var 3) (.lst .nil)))) .nil
def mi:Ss:=.cons (.setC 3 1 (.var 4) (.nm 4) (.seq (.sl (.ix (.var 0) (.int 1)) .no (.yes (.ix (.var 0) (.int 2))))) (.yes (.cmp .Eq (.bin .BitAnd (.bin .RShift (.var 2) (.var 4)) (.int 1)) (.int 1)))) iL
def iM:Ss:=.cons (.ite (.cmp .Eq (.ix (.var 0) (.int 0)) (.str "some")) (.cons (.ret (.cmp .GtE (.bi .len (.cons (.comp 1 (.var 4) (.nm 4) (.seq (.ix (.var 0) (.int 2))) (.yes (.cmp .Eq (.bin .BitAnd (.bin .RShift (.var 1) (.var 4)) (.int 1)) (.int 1)))) .nil)) (.ix (.var 0) (.int 1)))) .nil) .nil) mi
def dY:Ss:=.cons (.ite (.cmp .Eq (.ix (.var 0) (.int 0)) (.str "lack")) (.cons (.ret (.cmp .Eq (.bin .BitAnd (.bin .RShift (.var 2) (.ix (.var 0) (.int 1))) (.int 1)) (.int 0))) .nil) .nil) iM
def bO:Ss:=.cons (.ite (.cmp .Eq (.ix (.var 0) (.int 0)) (.str "have")) (.cons (.ret (.cmp .Eq (.bin .BitAnd (.bin .RShift (.var 1) (.ix (.var 0) (.int 1))) (.int 1)) (.int 1))) .nil) .nil) dY
def mj:Ss:=.cons (.ret (.bl true)) .nil
def jl:Ss:=.cons (.ite (.not (.val (.fn 0 (.cons (.var 3) (.cons (.var 1) (.cons (.var 2) .nil)))))) (.cons (.ret (.bl false)) .nil) .nil) .nil
def lI:Ss:=.cons (.for (.nm 3) (.seq (.var 0)) jl) mj
def mJ:SpD:=fun ds M Q=>∃(a:Addr) (ns:List Int) (m:Nat),ds=[.ref a,.int (m:Int)]/\M a=some (.rol (ns.map .int))/\m<30/\∀told:Nat,told<2 ^ m->Q (.int (told:Int)) M
def lJ(c:CA)(S:Addr):SpD:=fun ds M Q=>∃(m:Nat) (p:Addr) (rds:List D) (rows:List Row),ds=[.int (m:Int),.ref p]/\M p=some (.lst rds)/\aL M rds rows/\RowsOk m rows/\∀a M',Ext M M'->SheetAt c S M' a m rows->Q (.ref a) M'
def jm:SpD:=fun ds M Q=>∃(t:CT) (h g:Int),ds=[t.told,.int h,.int g]/\t.ok/\∀M',Ext M M'->Q (.bl (t.carried h g)) M'
def oK:SpD:=fun ds M Q=>∃(p:Addr) (ts:List CT) (h g:Int),ds=[.ref p,.int h,.int g]/\M p=some (.lst (ts.map CT.told))/\(∀t∈ts,t.ok)/\∀M',Ext M M'->Q (.bl (ts.all (CT.carried h g))) M'
theorem nB(m:Nat):(1:Int)*2 ^ (m:Int).toNat=((2 ^ m:Nat):Int):=by rw[Int.toNat_natCast,Int.one_mul];simp
theorem LY{m:Nat}(h:m<30):((2 ^ m:Nat):Int)<1073741824:=by
 have:2 ^ m<2 ^ 30:=Nat.pow_lt_pow_right (by decide) h
 exact Int.ofNat_lt.2 (Nat.lt_of_lt_of_le this (by decide))
theorem Ko(m:Nat):0<((2 ^ m:Nat):Int):=Int.ofNat_lt.2 (Nat.two_pow_pos m)
theorem modN{x:Int}{n:Nat}(h:0<(n:Int)):∃u:Nat,x%(n:Int)=(u:Int)/\u<n:=by
 have h1:=modB (y:=x) h;refine⟨(x%(n:Int)).toNat,(Int.toNat_of_nonneg h1.1).symm,?_⟩;omega
theorem GI(L:List Int):eqDs (intL L) []=(((L.length:Nat):Int)==0):=by
 cases L with
 |nil=>show eqDs [] []=_;rw[eqDs];rfl
 |cons a l=>
  have h2:((((a::l).length:Nat):Int)==0)=false:=by rw[beq_eq_false_iff_ne,List.length_cons];omega
  rw[h2];show eqDs (.int a::intL l) []=false;simp[eqDs]
theorem bP{a b:Nat}:a&&&b=a↔Sub a b:=by
 constructor
 ·intro h f hf
  have:(a&&&b).testBit f=true:=by rw[h];exact hf
  rw[Nat.testBit_and,hf,Bool.true_and] at this;exact this
 ·intro h
  refine Nat.eq_of_testBit_eq fun f=>?_
  rw[Nat.testBit_and];cases e:a.testBit f with
  |false=>rfl
  |true=>rw[h f e];rfl
section
variable {cn : Cn} {ds : List D} {M : MH} {Q : DK} {c : CA} {S : Addr}
theorem CD(f0:cn.F.getD 0 (fun _ _ _=>False)=c7)(h:mJ ds M Q):wSs cn kl (fin Q) (ag ["", "", ""] ds) M:=by
 obtain⟨a,ns,m,rfl,hM,hm,q⟩:=h;show wSs cn kl (fin Q) [some (.ref a),some (.int (m:Int)),none] M;unfold kl;simp! only[List.set,f0];refine⟨a,ns,2,rfl,hM,?_⟩;generalize cellAt ns 2=x;unfold pv;simp! only[List.set,nB];have hp:=Ko m;have P:CPow 1 (m:Int):=⟨by omega,by omega,by decide⟩;refine⟨P,hp,P,⟨hp,LY hm⟩,P,hp,?_⟩;obtain⟨u,hu,hu2⟩:=modN (x:=x) hp;obtain⟨v,hv,hv2⟩:=modN (x:=x / ((2 ^ m:Nat):Int)) hp;rw[hu,hv,jS];exact q _ (Nat.lt_of_le_of_lt Nat.and_le_left hu2)
theorem AH(f0:cn.F.getD 0 (fun _ _ _=>False)=aX S (eL c S))(h:lJ c S ds M Q):wSs cn jk (fin Q) (ag ["", ""] ds) M:=by
 obtain⟨m,p,rds,rows,rfl,hp,hR,ok,q⟩:=h;show wSs cn jk (fin Q) [some (.int (m:Int)),some (.ref p)] M;have key:∀(F:List D->MH->Prop) (xs:List D) (rrs dn:List Row) (acc:List D) (v2 v3:Option D) (M5:MH),aL M xs rrs->Ext M M5->aL M5 acc dn->(∀acc' M6,Ext M M6->aL M6 acc' (dn++rrs)->F acc' M6) ->
   aQ (fun M'=>M' p=some (.lst rds)) (.tp [2,3]) (wTo cn .no) (wE cn (.tup (.cons (.var 2) (.cons (.bk .list (.cons (.var 3) .nil)) .nil)))) F xs acc [some (.int (m:Int)),some (.ref p),v2,v3] M5:=by
  intro F xs rrs dn acc v2 v3 M5 hx;induction hx generalizing dn acc v2 v3 M5 with
  |nil=>
   intro e5 h5 k;rw[aQ];rw[List.append_nil] at k;exact k acc M5 e5 h5
  |@cons d x xs rrs hd _ ih=>
   intro e5 h5 k;obtain⟨q1,rfl,hq1⟩:=hd;have hq5:=e5 _ _ hq1;rw[aQ];simp! only[List.set,dBk,iY,hq5,rdD,rdL];refine⟨rfl,fun r hr=>?_⟩;have e6:=e5.then (o:=MO.lst (x.2.map CT.told)) hr;refine⟨e6 _ _ hp,ih (dn++[x]) _ _ _ _ e6 ?_ ?_⟩
   ·exact bd (aL.ext (Ext.new hr) h5) (.cons ⟨r,rfl,ab⟩ .nil)
   ·intro acc' M6 e h
    rw[List.append_assoc] at h;exact k acc' M6 e h
 unfold jk;simp! only[List.set,List.cons_append,List.nil_append,List.replicate,hp,f0];refine key _ rds rows [] [] none none M hR (Ext.refl M) .nil ?_;intro acc M6 e6 hA r hr x hx;rw[List.nil_append] at hA;have e7:=e6.then (o:=MO.lst acc) hr;have g7:updM M6 r (MO.lst acc) r=some (.lst acc):=ab;have A7:=hA.ext (Ext.new (o:=MO.lst acc) hr);generalize updM M6 r (MO.lst acc)=M7 at *;have e8:Ext M7 (updM M7 x (.ins S [])):=Ext.new hx;refine⟨x,m,r,acc,rows,rfl,ab,e8 _ _ g7,A7.ext e8,ok,fun M9 b9 s9=>⟨rfl,q x M9 ?_ s9⟩⟩;exact ExtBut.ext (e7.trans e8) b9 (by
  cases z:M x with
  |none=>rfl
  |some o=>rw[e7 _ _ z] at hx;cases hx)
theorem xk(h:jm ds M Q):wSs cn bO (fin Q) (ag ["", "", "", ""] ds) M:=by
 obtain⟨t,h,g,rfl,ho,q⟩:=h;show wSs cn bO (fin Q) [some t.told,some (.int h),some (.int g),none] M;cases t with
 |hav f=>
  unfold bO;simp_all! only[CT.told,at0,at1,at2,sh_];refine⟨ho.1,?_⟩;rw[PyProof.Rows.bitAnd_m1];exact q M (Ext.refl M)
 |lck f=>
  unfold bO;simp_all! only[CT.told,at0,at1,at2,s_lh];unfold dY;simp_all! only[CT.told,at0,at1,at2,s_ll];refine⟨ho.1,?_⟩;rw[PyProof.Rows.bitAnd_m1];have q1:Q (.bl (!hasB g f)) M:=q M (Ext.refl M);rw[←Ag] at q1;exact q1
 |som n fs=>
  unfold bO;simp_all! only[CT.told,at0,at1,at2,s_sh];unfold dY;simp_all! only[CT.told,at0,at1,at2,s_sl];unfold iM;simp_all! only[CT.told,at0,at1,at2,s_ss,List.cons_append,List.nil_append,List.replicate];refine c5 (p:=fun d=>match d with | .int f=>hasB h f | _=>false) (ok:=fun σ=>∃v,σ=[some (.tup [.str "some",.int n,.tup (intL fs)]),some (.int h),some (.int g),none,v]) [] _ ⟨none,rfl⟩ ?_ ?_
  ·intro d hd σ acc rest ⟨v,hv⟩ k
   subst hv;obtain⟨f,hfm,rfl⟩:=List.mem_map.1 hd;have k1:=k _ ⟨some (.int f),rfl⟩;dsimp only at k1;refine⟨(ho.2 f hfm).1,⟨rfl,rfl,(by decide:(0:Nat)<=30)⟩,?_⟩;show Bif (Builtin.bitAnd (h / 2 ^ f.toNat) 1==1) _ _;rw[PyProof.Rows.bitAnd_m1];show Bif (hasB h f) _ _;cases hb:hasB h f with
   |true=>rw[hb] at k1;exact⟨trivial,k1⟩
   |false=>rw[hb] at k1;exact⟨trivial,by simpa using k1⟩
  ·intro p hp
   rw[ab];have e:([]++(intL fs).filter (fun(d:D)=>match d with | .int f=>hasB h f | _=>false)).length=cntB fs h:=by
    unfold intL cntB;rw[List.nil_append,List.filter_map,List.length_map];rfl
   dsimp only;rw[e];exact q _ (Ext.new hp)
 |led fs k=>
  unfold bO;simp_all! only[CT.told,at0,at1,at2,s_dh];unfold dY;simp_all! only[CT.told,at0,at1,at2,s_dl];unfold iM;simp_all! only[CT.told,at0,at1,at2,s_ds];unfold mi;simp_all! only[CT.told,at0,at1,at2,rM,List.cons_append,List.nil_append,List.replicate];refine c5 (p:=fun d=>match d with | .int f=>hasB g f | _=>false) (ok:=fun σ=>∃v,σ=[some (.tup [.str "lead",.tup (intL fs),.int (k:Int)]),some (.int h),some (.int g),none,v]) [] _ ⟨none,rfl⟩ ?_ ?_
  ·intro d hd σ acc rest ⟨v,hv⟩ k
   subst hv;obtain⟨f,hfm,rfl⟩:=List.mem_map.1 hd;have k1:=k _ ⟨some (.int f),rfl⟩;dsimp only at k1;refine⟨(ho.2 f (List.mem_of_mem_take hfm)).1,⟨rfl,rfl,(by decide:(0:Nat)<=30)⟩,?_⟩;show Bif (Builtin.bitAnd (g / 2 ^ f.toNat) 1==1) _ _;rw[PyProof.Rows.bitAnd_m1];show Bif (hasB g f) _ _;cases hb:hasB g f with
   |true=>rw[hb] at k1;exact⟨trivial,k1⟩
   |false=>rw[hb] at k1;exact⟨trivial,by simpa using k1⟩
  ·intro p hp
   have e:([]++(intL (fs.take k)).filter (fun(d:D)=>match d with | .int f=>hasB g f | _=>false))=intL ((fs.take k).filter (hasB g)):=by
    unfold intL;rw[List.nil_append,List.filter_map];rfl
   rw[e];have e1:=Ext.new (o:=MO.lst (intL ((fs.take k).filter (hasB g)))) hp;have g1:updM M p (MO.lst (intL ((fs.take k).filter (hasB g)))) p=some (.lst (intL ((fs.take k).filter (hasB g)))):=ab;generalize updM M p (MO.lst (intL ((fs.take k).filter (hasB g))))=M1 at *;show wSs cn iL (fin Q) [some (.tup [.str "lead",.tup (intL fs),.int (k:Int)]),some (.int h),some (.int g),some (.ref p)] M1;have q1:∀M',Ext M M'->Q (.bl (hasB h (fs.getD k 0)&&(((cntB (fs.take k) g:Nat):Int)==0))) M':=q;unfold iL;simp_all! only[CT.told,at0,at1,at2,xc ho.1.1];refine⟨DU ho.1.1 ho.2,?_⟩;rw[PyProof.Rows.bitAnd_m1];show Bif (hasB h (fs.getD k 0)) _ _;cases hb:hasB h (fs.getD k 0) with
   |false=>
    rw[hb] at q1;exact q1 M1 e1
   |true=>
    rw[hb] at q1;intro p2 hp2;have e2:=Ext.new (o:=MO.lst []) hp2;have g2:updM M1 p2 (MO.lst []) p2=some (.lst []):=ab;generalize updM M1 p2 (MO.lst [])=M2 at *;simp only[e2 _ _ g1,g2,rdL];refine⟨⟨qm _,rfl,by rw[tT];decide⟩,?_⟩;rw[GI];exact q1 M2 (e1.trans e2)
theorem E3(f0:cn.F.getD 0 (fun _ _ _=>False)=jm)(h:oK ds M Q):wSs cn lI (fin Q) (ag ["", "", "", ""] ds) M:=by
 obtain⟨p,ts,h,g,rfl,hp,ho,q⟩:=h;show wSs cn lI (fin Q) [some (.ref p),some (.int h),some (.int g),none] M;have body:∀(E:EndsD) (t:CT) (M5:MH),t.ok->(∀M6,Ext M5 M6->t.carried h g=true->E.nx [some (.ref p),some (.int h),some (.int g),some t.told] M6)->(∀M6,Ext M5 M6->t.carried h g=false->E.rt (.bl false) M6) ->
   wSs cn jl E [some (.ref p),some (.int h),some (.int g),some t.told] M5:=by
  intro E t M5 ht k1 k2;unfold jl;simp! only[List.set,f0];refine⟨t,h,g,rfl,ht,fun M6 e6=>?_⟩;simp! only[];cases b:t.carried h g with
  |true=>exact k1 M6 e6 b
  |false=>exact k2 M6 e6 b
 have key:∀(xs:List CT) (v:Option D) (M5:MH),(∀t∈xs,t.ok)->Ext M M5->(∀M',Ext M M'->Q (.bl (xs.all (CT.carried h g))) M') ->
   az (fun M'=>M' p=some (.lst (ts.map CT.told))) (.nm 3) (wSs cn jl) { nx:=wSs cn mj (fin Q),rt:=Q } (xs.map CT.told) [some (.ref p),some (.int h),some (.int g),v] M5:=by
  intro xs;induction xs with
  |nil=>
   intro v M5 _ e5 k;rw[List.map_nil,az];unfold mj;simp! only[];exact k M5 e5
  |cons t xs ih=>
   intro v M5 ht e5 k;rw[List.map_cons,az];refine body _ t M5 (ht t (.head _)) (fun M6 e6 hb=>?_) (fun M6 e6 hb=>?_)
   ·refine⟨e5.trans e6 _ _ hp,ih _ M6 (fun t h=>ht t (.tail _ h)) (e5.trans e6) fun M' e'=>?_⟩
    have:=k M' e'
    rw[List.all_cons,hb,Bool.true_and] at this;exact this
   ·have:=k M6 (e5.trans e6)
    rw[List.all_cons,hb,Bool.false_and] at this;exact this
 unfold lI;simp! only[List.set,hp];exact key ts none M ho (Ext.refl M) q
end
end SH
namespace SH
open PySem L2 DD
theorem xl{rows:List Row}{g told heads m:Nat}(h1:told<2 ^ m)(h2:heads<2 ^ m):cv rows g told heads<2 ^ m:=by
 refine Nat.lt_pow_two_of_testBit _ fun f hf=>?_
 unfold cv;have a:told.testBit f=false:=Nat.testBit_lt_two_pow (Nat.lt_of_lt_of_le h1 (Nat.pow_le_pow_right (by decide) hf));rw[Nat.testBit_or,bq,a,Bool.false_or];refine decide_eq_false fun h=>?_
 have:=(lH _ _ _ _).2 f h
 rw[aN,Bool.and_eq_true] at this
 have:=eB h2 this.1
 omega
theorem aF.uniq{rows:List Row}{told g n n':Nat}(h:aF rows told g n)(h':aF rows told g n'):n=n':=by
 refine Nat.eq_of_testBit_eq fun f=>?_
 have a:=h.2 _ h'.1 f;have b:=h'.2 _ h.1 f;cases e:n.testBit f with
 |true=>exact(a e).symm
 |false=>
  cases e':n'.testBit f with
  |false=>rfl
  |true=>rw[b e'] at e;cases e
theorem Sub.antisymm{a b:Nat}(h:Sub a b)(h':Sub b a):a=b:=by
 refine Nat.eq_of_testBit_eq fun f=>?_
 cases e:a.testBit f with
 |true=>exact(h f e).symm
 |false=>
  cases e':b.testBit f with
  |false=>rfl
  |true=>rw[h' f e'] at e;cases e
theorem Sub.zero(a:Nat):Sub 0 a:=fun f h=>by rw[Nat.zero_testBit] at h;cases h
def cnt(m n:Nat):Nat:=(List.range m).countP fun f=>n.testBit f
theorem yr{p q:Nat->Bool}{f:Nat}(hp:p f=false)(hq:q f=true)(h:∀x,p x=true->q x=true):∀{l:List Nat},f∈l->l.countP p<l.countP q
 |[],hf=>by cases hf
 |a::l,hf=>by
  have le:l.countP p<=l.countP q:=List.countP_mono_left fun x _=>h x
  rw[List.countP_cons,List.countP_cons];rcases List.mem_cons.1 hf with rfl | hf
  ·rw[hp,hq];simp;omega
  ·have:=yr hp hq h hf
   cases e:p a with
   |true=>rw[h a e];simp;omega
   |false=>
    cases q a with
    |true=>simp;omega
    |false=>simp;omega
theorem lT{m a b:Nat}(h:Sub a b):cnt m a<=cnt m b:=List.countP_mono_left fun f _=>h f
theorem xm(m n:Nat):cnt m n<=m:=by
 have:=List.countP_le_length (p:=fun f=>n.testBit f) (l:=List.range m)
 rw[List.length_range] at this;exact this
theorem rS{m a b:Nat}(h:Sub a b)(hne:a≠b)(hb:b<2 ^ m):cnt m a<cnt m b:=by
 have:∃f,a.testBit f=false/\b.testBit f=true:=by
  refine Classical.byContradiction fun z=>hne (h.antisymm fun f hf=>?_)
  cases e:a.testBit f with
  |true=>rfl
  |false=>exact absurd ⟨f,e,hf⟩ z
 obtain⟨f,h1,h2⟩:=this;exact yr h1 h2 h (List.mem_range.2 (eB hb h2))
def a0(rows:List Row)(heads wide narrow known:Nat):Nat×Nat:=(cv rows known wide heads,cv rows (cv rows known wide heads) narrow heads)
def aD(x:Nat×Nat):D:=.tup [.int (x.1:Int),.int (x.2:Int)]
structure Rounds0 (rows:List Row) (heads wide narrow known:Nat) (ps:List (Nat×Nat)):Prop where
 first:ps[0]?=some (a0 rows heads wide narrow known)
 next:∀i x y,ps[i]?=some x->ps[i+1]?=some y->y=a0 rows heads wide narrow x.2/\y≠x
structure Rounds (rows:List Row) (heads wide narrow known:Nat) (ps:List (Nat×Nat)):Prop extends Rounds0 rows heads wide narrow known ps where
 last:∀x,ps.getLast?=some x->a0 rows heads wide narrow x.2=x
section
variable {rows : List Row} {heads wide narrow known m : Nat}
theorem AI(h1:heads<2 ^ m)(h2:wide<2 ^ m)(h3:narrow<2 ^ m)(known:Nat):(a0 rows heads wide narrow known).1<2 ^ m/\(a0 rows heads wide narrow known).2<2 ^ m:=⟨xl h2 h1,xl h3 h1⟩
theorem E4(hh:∀x∈rows,heads.testBit x.1=true){k k':Nat}(h:Sub k k'):Sub (a0 rows heads wide narrow k').1 (a0 rows heads wide narrow k).1/\Sub (a0 rows heads wide narrow k).2 (a0 rows heads wide narrow k').2:=by
 have a:Sub (a0 rows heads wide narrow k').1 (a0 rows heads wide narrow k).1:=aF.anti h (cU hh) (cU hh);exact⟨a,aF.anti a (cU hh) (cU hh)⟩
def farP(m:Nat)(x:Nat×Nat):Nat:=cnt m x.1+(m-cnt m x.2)
theorem Kq(m:Nat)(x:Nat×Nat):farP m x<=2*m:=by
 unfold farP
 have:=xm m x.1
 omega
theorem DW{x y:Nat×Nat}(h1:Sub y.1 x.1)(h2:Sub x.2 y.2)(hne:y≠x)(b1:x.1<2 ^ m)(b2:y.2<2 ^ m):farP m y<farP m x:=by
 unfold farP;have a1:=lT (m:=m) h1;have a2:=lT (m:=m) h2;have m2:=xm m y.2;by_cases e:y.1=x.1
 ·have e2:x.2≠y.2:=fun z=>hne (Prod.ext e z.symm)
  have:=rS h2 e2 b2
  omega
 ·have:=rS h1 e b1
  omega
end
theorem Sub.le{a b:Nat}(h:Sub a b):a<=b:=by
 rw[←bP.2 h];exact Nat.and_le_right
theorem yt{a b:Nat}(h:Sub b a):b|||ac a b=a:=by
 refine Nat.eq_of_testBit_eq fun f=>?_
 rw[Nat.testBit_or,aN];cases e:b.testBit f with
 |true=>rw[h f e];rfl
 |false=>simp
theorem E5{rows:List Row}{heads told:Nat}{ps:List (Nat×Nat)}{x:Nat×Nat}(hh:∀x∈rows,heads.testBit x.1=true)(R:Rounds rows heads told told 0 (ps++[x])):
  aF rows told x.2 x.1/\aF rows told x.1 x.2/\Sub x.2 x.1/\∀z o,aF rows told z o->Sub z o->aF rows told o z->Sub x.2 z/\Sub o x.1:=by
 have hlast:a0 rows heads told told x.2=x:=R.last x (by rw[List.getLast?_append];simp);have key:∀(i:Nat) (y:Nat×Nat),(ps++[x])[i]?=some y->aF rows told y.1 y.2/\Sub y.2 y.1/\∀z o,aF rows told z o->Sub z o->aF rows told o z->Sub y.2 z/\Sub o y.1:=by
  have step:∀k,(∀o,aF rows told k o->Sub k o)->∀y,y=a0 rows heads told told k->(∀z o,aF rows told z o->Sub z o->aF rows told o z->Sub k z)->aF rows told y.1 y.2/\Sub y.2 y.1/\∀z o,aF rows told z o->Sub z o->aF rows told o z->Sub y.2 z/\Sub o y.1:=by
   intro k hk y hy hz;have l1:aF rows told k y.1:=by rw[hy];exact cU hh
   have l2:aF rows told y.1 y.2:=by rw[hy];exact cU hh
   refine⟨l2,aF.anti (hk _ l1) l1 l2,fun z o h1 h2 h3=>?_⟩;have a:Sub o y.1:=aF.anti (hz z o h1 h2 h3) l1 h1;exact⟨aF.anti a h3 l2,a⟩
  intro i;induction i with
  |zero=>
   intro y hy;have e:=R.first;rw[hy] at e;exact step 0 (fun o _=>Sub.zero _) y (Option.some.inj e) fun z o _ _ _=>Sub.zero _
  |succ i ih=>
   intro y hy;have hl:=(List.getElem?_eq_some_iff.mp hy).1;have hi:(ps++[x])[i]?=some ((ps++[x])[i]'(by omega)):=List.getElem?_eq_getElem (by omega);generalize (ps++[x])[i]'(by omega)=y0 at hi;obtain⟨a1,a2,a3⟩:=ih y0 hi;refine step y0.2 (fun o ho=>?_) y (R.next i y0 y hi hy).1 fun z o h1 h2 h3=>(a3 z o h1 h2 h3).1
   exact aF.anti a2 ho a1
 obtain⟨-,b2,b3⟩:=key ps.length x (by simp);have c1:aF rows told x.2 x.1:=by
  have:x.1=cv rows x.2 told heads:=(congrArg Prod.fst hlast).symm
  rw[this];exact cU hh
 have c2:aF rows told x.1 x.2:=by
  have h1:cv rows x.2 told heads=x.1:=congrArg Prod.fst hlast;have:x.2=cv rows x.1 told heads:=by rw[←h1];exact(congrArg Prod.snd hlast).symm
  rw[this];exact cU hh
 exact⟨c1,c2,b2,b3⟩
def mK:Ss:=.cons (.ret (.var 5)) .nil
def mL:Ss:=.cons (.set 6 (.fn 0 (.cons (.var 0) (.cons (.var 1) (.cons (.ix (.var 6) (.int 1)) (.cons (.var 3) (.cons (.var 4) .nil))))))) .nil
def mM:Ss:=.cons (.expr (.mt .append (.var 5) (.cons (.var 6) .nil))) mL
def mN:Ss:=.cons (.while (.cmp .NotEq (.var 6) (.ix (.var 5) (.neg (.int 1)))) mM) mK
def mO:Ss:=.cons (.set 6 (.fn 0 (.cons (.var 0) (.cons (.var 1) (.cons (.ix (.ix (.var 5) (.neg (.int 1))) (.int 1)) (.cons (.var 3) (.cons (.var 4) .nil))))))) mN
def iw:Ss:=.cons (.set 5 (.lst (.cons (.fn 0 (.cons (.var 0) (.cons (.var 1) (.cons (.var 2) (.cons (.var 3) (.cons (.var 4) .nil)))))) .nil))) mO
def nC:Ss:=.cons (.ret (.tup (.cons (.var 5) (.cons (.fn 0 (.cons (.var 0) (.cons (.var 1) (.cons (.var 4) (.cons (.var 5) .nil))))) .nil)))) .nil
def jn:Ss:=.cons (.set 5 (.fn 0 (.cons (.var 0) (.cons (.var 1) (.cons (.var 3) (.cons (.var 2) .nil)))))) nC
def lr:Ss:=.cons (.setF (.var 0) "others" (.bin .BitAnd (.var 3) (.inv (.ix (.ix (.fld (.var 0) "pairs") (.neg (.int 1))) (.int 0))))) .nil
def lu:Ss:=.cons (.setF (.var 0) "unsure" (.bin .BitAnd (.ix (.ix (.fld (.var 0) "pairs") (.neg (.int 1))) (.int 0)) (.inv (.fld (.var 0) "sure")))) lr
def lw:Ss:=.cons (.setF (.var 0) "sure" (.ix (.ix (.fld (.var 0) "pairs") (.neg (.int 1))) (.int 1))) lu
def lx:Ss:=.cons (.setF (.var 0) "pairs" (.fn 0 (.cons (.var 1) (.cons (.var 3) (.cons (.int 0) (.cons (.var 2) (.cons (.var 2) .nil))))))) lw
def fG:Ss:=.cons (.set 3 (.fn 1 (.cons (.mu0 "how_many" (.var 1)) .nil))) lx
def cc:Ss:=.cons (.ret (.fld (.var 0) "sure")) .nil
def ce:Ss:=.cons (.ret (.fld (.var 0) "unsure")) .nil
def lK(c:CA)(S:Addr):SpD:=fun ds M Q=>∃(a:Addr) (m:Nat) (rows:List Row) (heads known wide narrow:Nat),ds=[.ref a,.int (heads:Int),.int (known:Int),.int (wide:Int),.int (narrow:Int)]/\SheetAt c S M a m rows/\rows.length<64/\m<64/\heads<2 ^ m/\wide<2 ^ m/\narrow<2 ^ m /\
 ∀M',Ext M M'->Q (aD (a0 rows heads wide narrow known)) M'
def lL(c:CA)(S:Addr):SpD:=fun ds M Q=>∃(a:Addr) (m:Nat) (rows:List Row) (heads known wide narrow:Nat),ds=[.ref a,.int (heads:Int),.int (known:Int),.int (wide:Int),.int (narrow:Int)]/\SheetAt c S M a m rows/\rows.length<64/\m<64/\heads<2 ^ m/\wide<2 ^ m/\narrow<2 ^ m /\
 (∀x∈rows,heads.testBit x.1=true)/\Sub known (a0 rows heads wide narrow known).2/\∀p ps x M',M p=none->Ext M M'->M' p=some (.lst ((ps++[x]).map aD))->Rounds rows heads wide narrow known (ps++[x])->Q (.ref p) M'
def vm(m:Nat)(p:Addr)(x:Nat×Nat):List (Str×D):=[("pairs",.ref p),("sure",.int (x.2:Int)),("unsure",.int (ac x.1 x.2:Nat)),("others",.int (ac (2 ^ m-1) x.1:Nat))]
structure SortAt (Z:Addr) (M:MH) (a:Addr) (m:Nat) (ps:List (Nat×Nat)) (x:Nat×Nat):Prop where
 ex:∃p,M a=some (.ins Z (vm m p x))/\M p=some (.lst ((ps++[x]).map aD))
theorem SortAt.ext{Z:Addr}{M M':MH}{a:Addr}{m:Nat}{ps:List (Nat×Nat)}{x:Nat×Nat}(e:Ext M M')(h:SortAt Z M a m ps x):SortAt Z M' a m ps x:=by
 obtain⟨p,h1,h2⟩:=h;exact⟨p,e _ _ h1,e _ _ h2⟩
def vn:List Str:=["pairs", "sure", "unsure", "others"]
def iy(c:CA)(S Z:Addr):SpD:=fun ds M Q=>∃(a sh:Addr) (m:Nat) (rows:List Row) (told:Nat),ds=[.ref a,.ref sh,.int (told:Int)]/\M a=some (.ins Z [])/\SheetAt c S M sh m rows/\rows.length<64/\m<64/\told<2 ^ m /\
 ∀ps x M',ExtBut a M M'->SortAt Z M' a m ps x->Rounds rows (2 ^ m-1) told told 0 (ps++[x])->Q .non M'
def ib(Z:Addr):SpD:=fun ds M Q=>∃(a:Addr) (m:Nat) (ps:List (Nat×Nat)) (x:Nat×Nat),ds=[.ref a]/\SortAt Z M a m ps x/\Q (.int (x.2:Int)) M
def ic(Z:Addr):SpD:=fun ds M Q=>∃(a:Addr) (m:Nat) (ps:List (Nat×Nat)) (x:Nat×Nat),ds=[.ref a]/\SortAt Z M a m ps x/\Q (.int (ac x.1 x.2:Nat)) M
section
variable {m : Nat} {p : Addr} {x : Nat × Nat}
theorem Kr:(vm m p x).lookup ("sure" : Str)=some (.int (x.2:Int)):=rfl
theorem GJ:(vm m p x).lookup ("unsure" : Str)=some (.int (ac x.1 x.2:Nat)):=rfl
theorem Ks:(vm m p x).lookup ("true_facts" : Str)=none:=rfl
theorem DX:(vm m p x).lookup ("open_facts" : Str)=none:=rfl
end
abbrev zF1(x:D):List (Str×D):=[("pairs",x)]
abbrev zF2(x y:D):List (Str×D):=[("pairs",x),("sure",y)]
abbrev zF3(x y z:D):List (Str×D):=[("pairs",x),("sure",y),("unsure",z)]
theorem zp0(x:D):cq ("pairs" : Str) x []=zF1 x:=rfl
theorem zp1(x y:D):cq ("sure" : Str) y (zF1 x)=zF2 x y:=rfl
theorem zp2(x y z:D):cq ("unsure" : Str) z (zF2 x y)=zF3 x y z:=rfl
theorem zp3(x y z u:D):cq ("others" : Str) u (zF3 x y z)=([("pairs",x),("sure",y),("unsure",z),("others",u)]:List (Str×D)):=rfl
theorem zl1(x:D):List.lookup ("pairs" : Str) (zF1 x)=some x:=rfl
theorem zl2(x y:D):List.lookup ("pairs" : Str) (zF2 x y)=some x:=rfl
theorem zl2s(x y:D):List.lookup ("sure" : Str) (zF2 x y)=some y:=rfl
theorem zl3(x y z:D):List.lookup ("pairs" : Str) (zF3 x y z)=some x:=rfl
theorem jo(ps:List (Nat×Nat))(x:Nat×Nat):atI ((ps++[x]).map aD) (-1)=some (.tup [.int (x.1:Int),.int (x.2:Int)]):=by
 rw[List.map_append];exact Hc _ _
theorem Kt(x y:Nat×Nat):eqD (aD x) (aD y)=decide (x=y):=by
 unfold aD;rw[eqD,eqDs,eqDs,eqDs,ah,ah,Bool.and_true];by_cases h:x=y
 ·subst h;simp
 ·rw[decide_eq_false h]
  cases h1:((x.1:Int)==(y.1:Int)) with
  |false=>rfl
  |true=>
   rw[Bool.true_and,beq_eq_false_iff_ne];intro z;have h1:=eq_of_beq h1;exact h (Prod.ext (Int.ofNat_inj.1 h1) (Int.ofNat_inj.1 z))
theorem yu(x:Nat×Nat):aP (aD x)=true:=rfl
theorem Il(x:Nat×Nat):depD (aD x)<=30:=by
 unfold aD;rw[depD,bQ,bQ,bQ,ai,ai];decide
section
variable {cn : Cn} {ds : List D} {M : MH} {Q : DK} {c : CA} {S Z : Addr}
theorem AJ(f0:cn.F.getD 0 (fun _ _ _=>False)=dF c S)(h:lK c S ds M Q):wSs cn jn (fin Q) (ag ["", "", "", "", "", ""] ds) M:=by
 obtain⟨a,m,rows,heads,known,wide,narrow,rfl,A,hn,hm,hh,hw,hv,q⟩:=h;show wSs cn jn (fin Q) [some (.ref a),some (.int (heads:Int)),some (.int (known:Int)),some (.int (wide:Int)),some (.int (narrow:Int)),none] M;unfold jn;simp! only[List.set,f0];refine⟨a,m,rows,heads,wide,known,rfl,A,hn,hm,hh,hw,fun M1 e1=>?_⟩;unfold nC;simp! only[List.set,f0];exact⟨a,m,rows,heads,narrow,_,rfl,A.ext e1,hn,hm,hh,hv,fun M2 e2=>q M2 (e1.trans e2)⟩
theorem yI(f0:cn.F.getD 0 (fun _ _ _=>False)=lK c S)(h:lL c S ds M Q):wSs cn iw (fin Q) (ag ["", "", "", "", "", "", ""] ds) M:=by
 obtain⟨a,m,rows,heads,known,wide,narrow,rfl,A,hn,hm,hh,hw,hv,hr,hk,q⟩:=h;show wSs cn iw (fin Q) [some (.ref a),some (.int (heads:Int)),some (.int (known:Int)),some (.int (wide:Int)),some (.int (narrow:Int)),none,none] M;have hsz:(2000:Nat)<sizeLine:=by decide
 have hlt:=AI (rows:=rows) hh hw hv;unfold iw;simp! only[List.set,f0];refine⟨a,m,rows,heads,known,wide,narrow,rfl,A,hn,hm,hh,hw,hv,fun M1 e1 p hp=>?_⟩;have hpn:M p=none:=e1.free hp;have e2:Ext M (updM M1 p (.lst [aD (a0 rows heads wide narrow known)])):=e1.then hp;have g2:updM M1 p (MO.lst [aD (a0 rows heads wide narrow known)]) p=some (.lst (([]++[a0 rows heads wide narrow known]).map aD)):=ab;generalize updM M1 p (MO.lst [aD (a0 rows heads wide narrow known)])=M2 at *;clear e1 hp;clear M1;unfold mO;simp! only[List.set,f0,g2,jo,at1];refine⟨a,m,rows,heads,_,wide,narrow,rfl,A.ext e2,hn,hm,hh,hw,hv,fun M3 e3=>?_⟩;have g3:=e3 _ _ g2;have e03:=e2.trans e3;clear e2 g2 e3;clear M2;unfold mN;show kG _ _ _ _ _;refine⟨fun k σ M'=>∃(acc:List (Nat×Nat)) (x:Nat×Nat),farP m x=k/\σ=[some (.ref a),some (.int (heads:Int)),some (.int (known:Int)),some (.int (wide:Int)),some (.int (narrow:Int)),some (.ref p),some (aD (a0 rows heads wide narrow x.2))] /\
  Ext M M'/\M' p=some (.lst ((acc++[x]).map aD))/\(∃k0,x=a0 rows heads wide narrow k0/\Sub k0 x.2)/\acc.length+farP m x<=2*m/\Rounds0 rows heads wide narrow known (acc++[x]),?_,?_⟩
 ·refine⟨_,[],_,rfl,rfl,e03,g3,⟨known,rfl,hk⟩,?_,rfl,?_⟩
  ·have:=Kq m (a0 rows heads wide narrow known)
   simpa using this
  ·intro i x y h1 h2
   cases i with
   |zero=>cases h2
   |succ i=>cases h2
 rintro k σ M' ⟨acc,x,rfl,rfl,e4,g4,⟨k0,hx,hk0⟩,hlen,R⟩;have test:∀K:Bool->MH->Prop,K (!decide (a0 rows heads wide narrow x.2=x)) M'->wT cn (.cmp .NotEq (.var 6) (.ix (.var 5) (.neg (.int 1)))) [some (.ref a),some (.int (heads:Int)),some (.int (known:Int)),some (.int (wide:Int)),some (.int (narrow:Int)),some (.ref p),some (aD (a0 rows heads wide narrow x.2))] M' K:=by
  intro K hK;simp! only[List.set,g4,jo];rw[←Kt] at hK;exact⟨⟨yu _,yu x,Il _⟩,hK⟩
 refine test _ ?_;by_cases he:a0 rows heads wide narrow x.2=x
 ·rw[decide_eq_true he,Bool.not_true,aM]
  dsimp only;unfold mK;simp! only[List.set];refine q p acc x M' hpn e4 g4 ⟨R,fun y hy=>?_⟩;rw[List.getLast?_append] at hy;have:x=y:=by simpa using hy
  subst this;exact he
 ·rw[decide_eq_false he,Bool.not_false,aU]
  have mono:=E4 (wide:=wide) (narrow:=narrow) hr hk0;rw[←hx] at mono;have hb:=hlt k0;rw[←hx] at hb;have far:=DW (m:=m) mono.1 mono.2 he hb.1 (hlt x.2).2;have hal:((acc++[x]).map aD).length=acc.length+1:=by rw[List.length_map,List.length_append];rfl
  refine⟨fun σ' M''=>∃k',k'<farP m x/\_,fun σ' M'' h=>h,?_⟩;unfold mM;simp! only[List.set,g4];refine⟨rfl,by omega,?_⟩;have e5:Ext M (updM M' p (.lst ((acc++[x]).map aD++[aD (a0 rows heads wide narrow x.2)]))):=e4.put hpn;have g5:updM M' p (MO.lst ((acc++[x]).map aD++[aD (a0 rows heads wide narrow x.2)])) p=some (.lst ((acc++[x]++[a0 rows heads wide narrow x.2]).map aD)):=by
   rw[ab,List.map_append (l₁:=acc++[x])];rfl
  generalize updM M' p (MO.lst ((acc++[x]).map aD++[aD (a0 rows heads wide narrow x.2)]))=M5 at *;unfold mL;simp! only[List.set,f0,aD,at1];refine⟨a,m,rows,heads,_,wide,narrow,rfl,A.ext e5,hn,hm,hh,hw,hv,fun M6 e6=>?_⟩;refine⟨_,far,acc++[x],a0 rows heads wide narrow x.2,rfl,rfl,e5.trans e6,e6 _ _ g5,⟨x.2,rfl,mono.2⟩,by rw[List.length_append];simp;omega,?_,?_⟩
  ·have h0:0<(acc++[x]).length:=by simp
   rw[List.getElem?_append_left h0];exact R.first
  ·intro i y z h1 h2
   have hi:i+1<(acc++[x]++[a0 rows heads wide narrow x.2]).length:=(List.getElem?_eq_some_iff.mp h2).1;simp only[List.length_append,List.length_cons,List.length_nil] at hi;by_cases hlast:i+1<(acc++[x]).length
   ·rw[List.getElem?_append_left (by omega)] at h1
    rw[List.getElem?_append_left hlast] at h2;exact R.next i y z h1 h2
   ·simp only[List.length_append,List.length_cons,List.length_nil] at hlast
    have hia:i=acc.length:=by omega
    subst hia;have hy:y=x:=by
     rw[List.getElem?_append_left (by simp),List.getElem?_append_right (by omega)] at h1;simpa using h1.symm
    have hz:z=a0 rows heads wide narrow x.2:=by
     rw[List.getElem?_append_right (by simp)] at h2;simpa using h2.symm
    subst hy hz;exact⟨rfl,he⟩
theorem vo(hO:∀f∈vn,cn.O Z f)(hT:cn.T S "how_many" = some (iR c S))(f0:cn.F.getD 0 (fun _ _ _=>False)=lL c S)(f1:cn.F.getD 1 (fun _ _ _=>False)=lF)(h:iy c S Z ds M Q):wSs cn fG (fin Q) (ag ["", "", "", ""] ds) M:=by
 obtain⟨a,sh,m,rows,told,rfl,ha,A,hn,hm,ht,q⟩:=h;show wSs cn fG (fin Q) [some (.ref a),some (.ref sh),some (.int (told:Int)),none] M;obtain⟨ok,crs,p1,p2,p3,ps1,ps2,ps3,h1,-⟩:=A.ext (Ext.refl M);have hpos:1<=2 ^ m:=Nat.one_le_two_pow;unfold fG;simp! only[List.set,h1,sO,hT,f1];refine⟨trivial,sh,m,rows,rfl,A,m,rfl,by omega,?_⟩;unfold lx;simp! only[List.set,f0];have bit:∀f,f<m->(2 ^ m-1).testBit f=true:=fun f hf=>by rw[Nat.testBit_two_pow_sub_one];exact decide_eq_true hf
 refine⟨sh,m,rows,2 ^ m-1,0,told,told,rfl,A,hn,hm,by omega,ht,ht,fun x hx=>bit x.1 (ok.fit x hx).1,Sub.zero _,fun p ps x M1 hp e1 g1 R=>?_⟩;have hap:a≠p:=bK ha hp;have ha1:=e1 _ _ ha;simp only[ha1,zp0];refine⟨⟨hO _ (by decide +kernel),by decide⟩,?_⟩;have b2:ExtBut a M (updM M1 a (.ins Z (zF1 (.ref p)))):=e1.but.trans (ExtBut.upd _ _ _);have ha2:updM M1 a (MO.ins Z (zF1 (.ref p))) a=some (.ins Z (zF1 (.ref p))):=ab;have g2:updM M1 a (MO.ins Z (zF1 (.ref p))) p=some (.lst ((ps++[x]).map aD)):=by rw[aH hap.symm];exact g1
 generalize updM M1 a (MO.ins Z (zF1 (.ref p)))=M2 at *;clear e1 g1 ha1 hp;clear M1;unfold lw;simp! only[List.set,ha2,zl1,g2,jo,at1,zp1];refine⟨hO _ (by decide +kernel),⟨hO _ (by decide +kernel),(by decide:(1:Nat)<1000)⟩,?_⟩;have b3:=b2.trans (ExtBut.upd a M2 (.ins Z (zF2 (.ref p) (.int (x.2:Int)))));have ha3:updM M2 a (MO.ins Z (zF2 (.ref p) (.int (x.2:Int)))) a=some (.ins Z (zF2 (.ref p) (.int (x.2:Int)))):=ab;have g3:updM M2 a (MO.ins Z (zF2 (.ref p) (.int (x.2:Int)))) p=some (.lst ((ps++[x]).map aD)):=by rw[aH hap.symm];exact g2
 generalize updM M2 a (MO.ins Z (zF2 (.ref p) (.int (x.2:Int))))=M3 at *;clear b2 ha2 g2;clear M2;unfold lu;simp! only[wInv,List.set,ha3,zl2,zl2s,g3,jo,at0,bF,zp2];refine⟨hO _ (by decide +kernel),hO _ (by decide +kernel),⟨hO _ (by decide +kernel),(by decide:(2:Nat)<1000)⟩,?_⟩;have b4:=b3.trans (ExtBut.upd a M3 (.ins Z (zF3 (.ref p) (.int (x.2:Int)) (.int (ac x.1 x.2:Nat)))));have ha4:updM M3 a (MO.ins Z (zF3 (.ref p) (.int (x.2:Int)) (.int (ac x.1 x.2:Nat)))) a=some (.ins Z (zF3 (.ref p) (.int (x.2:Int)) (.int (ac x.1 x.2:Nat)))):=ab;have g4:updM M3 a (MO.ins Z (zF3 (.ref p) (.int (x.2:Int)) (.int (ac x.1 x.2:Nat)))) p=some (.lst ((ps++[x]).map aD)):=by rw[aH hap.symm];exact g3
 generalize updM M3 a (MO.ins Z (zF3 (.ref p) (.int (x.2:Int)) (.int (ac x.1 x.2:Nat))))=M4 at *;clear b3 ha3 g3;clear M3;unfold lr;simp! only[wInv,List.set,ha4,zl3,g4,jo,at0,bF,zp3];refine⟨hO _ (by decide +kernel),⟨hO _ (by decide +kernel),(by decide:(3:Nat)<1000)⟩,?_⟩;exact q ps x _ (b4.trans (ExtBut.upd _ _ _)) ⟨p,ab,by rw[aH hap.symm];exact g4⟩ R
theorem yJ(hO:∀f∈vn,cn.O Z f)(h:ib Z ds M Q):wSs cn cc (fin Q) (ag [""] ds) M:=by
 obtain⟨a,m,ps,x,rfl,⟨p,h1,h2⟩,q⟩:=h;show wSs cn cc (fin Q) [some (.ref a)] M;unfold cc;simp! only[h1,Kr];exact⟨hO _ (by decide +kernel),q⟩
theorem yK(hO:∀f∈vn,cn.O Z f)(h:ic Z ds M Q):wSs cn ce (fin Q) (ag [""] ds) M:=by
 obtain⟨a,m,ps,x,rfl,⟨p,h1,h2⟩,q⟩:=h;show wSs cn ce (fin Q) [some (.ref a)] M;unfold ce;simp! only[h1,GJ];exact⟨hO _ (by decide +kernel),q⟩
end
end SH
namespace SH
open PySem L2 DD
theorem dG{a b:Nat}:ac a b=0↔a&&&b=a:=by have:=dR a b;omega
def xn(rows:List Row)(heads told g s:Nat):Prop:=Sub told s/\∀x∈rows,heads.testBit x.1=true->a9 s g x=true->s.testBit x.1=true
def AK(rows:List Row)(heads told g n:Nat):Prop:=xn rows heads told g n/\∀s,xn rows heads told g s->Sub n s
theorem sQ{rows:List Row}{g told heads:Nat}:∀(k step come left:Nat),left<k->(∀f,left.testBit f=(heads.testBit f && !come.testBit f))->Sub told come->(∀s,xn rows heads told g s->Sub come s) ->
  AK rows heads told g (come|||setN ((bS rows g k step come left).map (·.1)))
 |0,_,_,_,h,_,_,_=>absurd h (Nat.not_lt_zero _)
 |k+1,step,come,left,hk,hl,ht,hc=>by
  rw[bS];by_cases e:ay rows come g left=[]
  ·rw[if_pos e]
   have z:come|||setN (([]:List (Nat×Nat×Nat)).map (·.1))=come:=by simp[setN]
   rw[z];refine⟨⟨ht,fun x hx hh q=>?_⟩,hc⟩;cases b:come.testBit x.1 with
   |true=>rfl
   |false=>
    have h1:left.testBit x.1=true:=by rw[hl,hh,b];rfl
    cases f1:bv rows come g x.1 with
    |none=>rw[nh f1 hx rfl] at q;cases q
    |some r=>
     have:=cT.2 ⟨h1,f1⟩
     rw[e] at this;cases this
  ·rw[if_neg e]
   have ih:=sQ (rows:=rows) (g:=g) (told:=told) (heads:=heads) k (step+1) (come|||newB (ay rows come g left)) (ac left (newB (ay rows come g left))) (by have:=oF e;omega) ?_ (ht.trans (Sub.or_l _ _)) ?_
   ·refine cast (congrArg (AK rows heads told g) ?_) ih
    refine Nat.eq_of_testBit_eq fun f=>?_
    rw[Nat.testBit_or,Nat.testBit_or,Nat.testBit_or,bq,bq,List.map_append,List.map_map];have z:(newB (ay rows come g left)).testBit f=decide (f∈(ay rows come g left).map ((·.1)∘fun(x:Nat×Nat)=>(x.1,step,x.2))):=by
     unfold newB;rw[bq];rfl
    rw[z,Bool.or_assoc];congr 1;rw[←Bool.decide_or];simp only[List.mem_append]
   ·intro f
    rw[aN,hl,Nat.testBit_or];cases heads.testBit f<;>cases come.testBit f<;>cases(newB (ay rows come g left)).testBit f<;>rfl
   ·intro s hs
    refine(hc s hs).or fun f hf=>?_
    obtain⟨r,hr⟩:=tX.1 hf;obtain⟨hf1,hf2⟩:=cT.1 hr;obtain⟨x,hx,rfl,hq⟩:=sN hf2;rw[hl,Bool.and_eq_true] at hf1;exact hs.2 x (List.mem_of_getElem? hx) hf1.1 (ke (hc s hs) hq)
theorem CF(rows:List Row)(g told heads:Nat):AK rows heads told g (cv rows g told heads):=
 sQ _ 1 told _ (Nat.lt_succ_self _) (fun f=>aN _ _ _) (Sub.refl _) fun s hs=>hs.1
theorem CG{rows:List Row}{told S U g:Nat}(L1:aF rows told S U)(L2:aF rows told U S)(SU:Sub S U)(h1:Sub S g)(h2:Sub g U):aF rows told g (cv rows g S (ac U S))/\Sub S (cv rows g S (ac U S))/\Sub (cv rows g S (ac U S)) U:=by
 obtain⟨C,B⟩:=CF rows g S (ac U S);have up:∀x∈rows,a9 U g x=true->U.testBit x.1=true:=fun x hx q=>L1.1.2 x hx (ng h1 q)
 have nU:Sub (cv rows g S (ac U S)) U:=B U ⟨SU,fun x hx _ q=>up x hx q⟩;refine⟨⟨⟨L2.1.1.trans C.1,fun x hx q=>?_⟩,fun s hs=>B s ⟨L2.2 s ⟨hs.1,fun x hx q=>hs.2 x hx (ng h2 q)⟩,fun x hx _ q=>hs.2 x hx q⟩⟩,C.1,nU⟩;have hu:U.testBit x.1=true:=up x hx (ke nU q);cases e:S.testBit x.1 with
 |true=>exact C.1 _ e
 |false=>exact C.2 x hx (by rw[aN,hu,e];rfl) q
def ax(gam:Nat->Nat)(y:Nat×Nat):Nat×Nat:=(y.1|||gam y.2,y.2&&&gam (y.1|||gam y.2))
inductive Nar (gam:Nat->Nat):Nat×Nat->Nat×Nat->Prop
 |stop {y:Nat×Nat}:¬((ax gam y).1&&&(ax gam y).2=(ax gam y).1/\ax gam y≠y)->Nar gam y (ax gam y)
 |go {y w:Nat×Nat}:(ax gam y).1&&&(ax gam y).2=(ax gam y).1->ax gam y≠y->Nar gam (ax gam y) w->Nar gam y w
theorem Nar.det{gam:Nat->Nat}{y w w':Nat×Nat}(h:Nar gam y w)(h':Nar gam y w'):w=w':=by
 induction h with
 |stop n=>
  cases h' with
  |stop _=>rfl
  |go a b _=>exact absurd ⟨a,b⟩ n
 |go a b _ ih=>
  cases h' with
  |stop n=>exact absurd ⟨a,b⟩ n
  |go _ _ h2=>exact ih h2
theorem Nar.mono{gam:Nat->Nat}{y w:Nat×Nat}(h:Nar gam y w):Sub y.1 w.1/\Sub w.2 y.2:=by
 have st:∀y:Nat×Nat,Sub y.1 (ax gam y).1/\Sub (ax gam y).2 y.2:=fun y=>⟨Sub.or_l _ _,fun f hf=>by
  have hf:(y.2&&&gam (y.1|||gam y.2)).testBit f=true:=hf;rw[Nat.testBit_and,Bool.and_eq_true] at hf;exact hf.1⟩
 induction h with
 |stop n=>exact st _
 |go a b _ ih=>exact⟨(st _).1.trans ih.1,ih.2.trans (st _).2⟩
theorem yv{gam:Nat->Nat}{m:Nat}{y:Nat×Nat}(hne:ax gam y≠y)(b1:y.2<2 ^ m)(b2:(ax gam y).1<2 ^ m):farP m ((ax gam y).2,(ax gam y).1)<farP m (y.2,y.1):=by
 refine DW (x:=(y.2,y.1)) (y:=((ax gam y).2,(ax gam y).1)) (fun f hf=>?_) (Sub.or_l _ _) (fun z=>hne (Prod.ext (congrArg Prod.snd z) (congrArg Prod.fst z))) b1 b2;have hf:(y.2&&&gam (y.1|||gam y.2)).testBit f=true:=hf;rw[Nat.testBit_and,Bool.and_eq_true] at hf;exact hf.1
inductive Tr where
 |broken (f:Nat) | world (s:Nat) | split (f:Nat) (a b:Tr)
def Tr.told:Tr->D
 |.broken f=>.tup [.str "broken",.int (f:Int)]
 |.world s=>.tup [.str "world",.int (s:Int)]
 |.split f a b=>.tup [.str "split",.int (f:Int),a.told,b.told]
def Tr.worlds:Tr->List Nat
 |.broken _=>[]
 |.world s=>[s]
 |.split _ a b=>a.worlds++b.worlds
def Tr.deep:Tr->Nat
 |.split _ a b=>max a.deep b.deep+1
 |_=>0
inductive Told (gam:Nat->Nat):Nat×Nat->Tr->Prop
 |broken {y w:Nat×Nat}{f:Nat}{r:List Nat}:Nar gam y w->memb (ac w.1 w.2)=f::r->Told gam y (.broken f)
 |world {y w:Nat×Nat}:Nar gam y w->w.1=w.2->Told gam y (.world w.1)
 |split {y w:Nat×Nat}{f:Nat}{r:List Nat}{a b:Tr}:Nar gam y w->Sub w.1 w.2->memb (ac w.2 w.1)=f::r->Told gam (w.1|||2 ^ f,w.2) a->Told gam (w.1,ac w.2 (2 ^ f)) b->Told gam y (.split f a b)
end SH
namespace SH
open PySem L2 DD
structure IsRoot (rows:List Row) (told s U:Nat):Prop where
 l1:aF rows told s U
 l2:aF rows told U s
 su:Sub s U
 mn:∀z o,aF rows told z o->Sub z o->aF rows told o z->Sub s z/\Sub o U
theorem IsRoot.uniq{rows:List Row}{told s U s' U':Nat}(h:IsRoot rows told s U)(h':IsRoot rows told s' U'):s=s'/\U=U':=by
 obtain⟨a1,a2⟩:=h.mn s' U' h'.l1 h'.su h'.l2;obtain⟨b1,b2⟩:=h'.mn s U h.l1 h.su h.l2;exact⟨a1.antisymm b1,b2.antisymm a2⟩
theorem Told.det{gam:Nat->Nat}{y:Nat×Nat}{t t':Tr}(h:Told gam y t)(h':Told gam y t'):t=t':=by
 induction h generalizing t' with
 |@broken y w f r n e=>
  cases h' with
  |broken n' e'=>
   cases n.det n';rw[e] at e';cases e';rfl
  |world n' e'=>
   cases n.det n';have:ac w.1 w.2=0:=dG.2 (bP.2 (by rw[e'];exact Sub.refl _))
   rw[this] at e;cases e
  |split n' s' e' _ _=>
   cases n.det n';have:ac w.1 w.2=0:=dG.2 (bP.2 s')
   rw[this] at e;cases e
 |@world y w n e=>
  cases h' with
  |broken n' e'=>
   cases n.det n';have:ac w.1 w.2=0:=dG.2 (bP.2 (by rw[e];exact Sub.refl _))
   rw[this] at e';cases e'
  |world n' e'=>cases n.det n';rfl
  |split n' s' e' _ _=>
   cases n.det n';have:ac w.2 w.1=0:=dG.2 (bP.2 (by rw[e];exact Sub.refl _))
   rw[this] at e';cases e'
 |@split y w f r a b n s e _ _ iha ihb=>
  cases h' with
  |broken n' e'=>
   cases n.det n';have:ac w.1 w.2=0:=dG.2 (bP.2 s)
   rw[this] at e';cases e'
  |world n' e'=>
   cases n.det n';have:ac w.2 w.1=0:=dG.2 (bP.2 (by rw[e'];exact Sub.refl _))
   rw[this] at e;cases e
  |split n' s' e' a' b'=>
   cases n.det n';rw[e] at e';cases e';rw[iha a',ihb b']
section
variable {rows : List Row} {told S U : Nat} {gam : Nat -> Nat}
def IM(rows:List Row)(told S U:Nat)(gam:Nat->Nat):Prop:=∀g,Sub S g->Sub g U->aF rows told g (gam g)/\Sub S (gam g)/\Sub (gam g) U
def Within(S U:Nat)(y:Nat×Nat):Prop:=(Sub S y.1/\Sub y.1 U)/\(Sub S y.2/\Sub y.2 U)
theorem Sub.and{a b c:Nat}(h:Sub a b)(h':Sub a c):Sub a (b&&&c):=fun f hf=>by rw[Nat.testBit_and,h f hf,h' f hf];rfl
theorem Sub.and_l(a b:Nat):Sub (a&&&b) a:=fun f hf=>by rw[Nat.testBit_and,Bool.and_eq_true] at hf;exact hf.1
theorem km(ok:IM rows told S U gam){y:Nat×Nat}(h:Within S U y):Within S U (ax gam y):=by
 obtain⟨⟨h1,h2⟩,h3,h4⟩:=h;have a:Sub S (y.1|||gam y.2):=h1.trans (Sub.or_l _ _);have b:Sub (y.1|||gam y.2) U:=h2.or (ok _ h3 h4).2.2;exact⟨⟨a,b⟩,h3.and (ok _ a b).2.1,(Sub.and_l _ _).trans h4⟩
theorem Im(R:IsRoot rows told S U):IM rows told S U (fun g=>cv rows g S (ac U S)):=fun g h1 h2=>CG R.l1 R.l2 R.su h1 h2
end
end SH
namespace SH
open PySem L2 DD
def lM:Ss:=.cons (.ret (.mu0 "root_node" (.fn 0 (.cons (.var 0) (.cons (.var 1) .nil))))) .nil
def ml:Ss:=.cons (.ret (.bin .Add (.fn 0 (.cons (.ix (.var 0) (.int 2)) .nil)) (.fn 0 (.cons (.ix (.var 0) (.int 3)) .nil)))) .nil
def iN:Ss:=.cons (.ite (.cmp .Eq (.ix (.var 0) (.int 0)) (.str "world")) (.cons (.ret (.lst (.cons (.ix (.var 0) (.int 1)) .nil))) .nil) .nil) ml
def cz:Ss:=.cons (.ite (.cmp .Eq (.ix (.var 0) (.int 0)) (.str "broken")) (.cons (.ret (.lst .nil)) .nil) .nil) iN
def fH:Ss:=.cons (.setF (.var 0) "unsure" (.mu0 "open_facts" (.var 3))) .nil
def fI:Ss:=.cons (.setF (.var 0) "sure" (.mu0 "true_facts" (.var 3))) fH
def cX:Ss:=.cons (.setF (.var 0) "sheet" (.var 1)) fI
def fJ(j:Nat):Ss:=.cons (.ite (.cmp .Gt (.var 4) (.glob j)) (.cons .never .nil) .nil) cX
def fK(j:Nat):Ss:=.cons (.set 4 (.bi .len (.cons (.fn 0 (.cons (.mu0 "open_facts" (.var 3)) .nil)) .nil))) (fJ j)
def eD(j:Nat):Ss:=.cons (.set 3 (.fn 1 (.cons (.var 1) (.cons (.var 2) .nil)))) (fK j)
def cY:Ss:=.cons (.ret (.mu "told_node" (.var 0) (.cons (.fld (.var 0) "sure") (.cons (.bin .BitOr (.fld (.var 0) "sure") (.fld (.var 0) "unsure")) .nil)))) .nil
def bU:Ss:=.cons (.ret (.fn 0 (.cons (.fld (.var 0) "sheet") (.cons (.fld (.var 0) "unsure") (.cons (.fld (.var 0) "sure") (.cons (.var 1) .nil)))))) .nil
def jG:Ss:=.cons (.ret (.tup (.cons (.var 3) (.cons (.var 4) .nil)))) .nil
def jH:Ss:=.cons (.set 4 (.bin .BitAnd (.var 2) (.mu "least_against" (.var 0) (.cons (.var 3) .nil)))) .nil
def jI:Ss:=.cons (.set 3 (.bin .BitOr (.var 1) (.mu "least_against" (.var 0) (.cons (.var 2) .nil)))) jH
def jJ:Ss:=.cons (.set 2 (.var 4)) jI
def jK:Ss:=.cons (.set 1 (.var 3)) jJ
def jL:Ss:=.cons (.while (.and (.cmp .Eq (.bin .BitAnd (.var 3) (.inv (.var 4))) (.int 0)) (.or (.cmp .NotEq (.var 3) (.var 1)) (.cmp .NotEq (.var 4) (.var 2)))) jK) jG
def jM:Ss:=.cons (.set 4 (.bin .BitAnd (.var 2) (.mu "least_against" (.var 0) (.cons (.var 3) .nil)))) jL
def dg:Ss:=.cons (.set 3 (.bin .BitOr (.var 1) (.mu "least_against" (.var 0) (.cons (.var 2) .nil)))) jM
def jp:Ss:=.cons (.ret (.tup (.cons (.str "split") (.cons (.ix (.var 5) (.int 0)) (.cons (.var 7) (.cons (.mu "told_node" (.var 0) (.cons (.ix (.var 3) (.int 0)) (.cons (.bin .BitAnd (.ix (.var 3) (.int 1)) (.inv (.var 6))) .nil))) .nil)))))) .nil
def jq:Ss:=.cons (.set 7 (.mu "told_node" (.var 0) (.cons (.bin .BitOr (.ix (.var 3) (.int 0)) (.var 6)) (.cons (.ix (.var 3) (.int 1)) .nil)))) jp
def dZ:Ss:=.cons (.set 6 (.bin .LShift (.int 1) (.ix (.var 5) (.int 0)))) jq
def d0:Ss:=.cons (.ite (.cmp .Eq (.bi .len (.cons (.var 5) .nil)) (.int 0)) (.cons (.ret (.tup (.cons (.str "world") (.cons (.ix (.var 3) (.int 0)) .nil)))) .nil) .nil) dZ
def jr:Ss:=.cons (.ite (.cmp .Gt (.bi .len (.cons (.var 4) .nil)) (.int 0)) (.cons (.ret (.tup (.cons (.str "broken") (.cons (.ix (.var 4) (.int 0)) .nil)))) .nil) .nil) d0
def jt:Ss:=.cons (.set 5 (.fn 0 (.cons (.bin .BitAnd (.ix (.var 3) (.int 1)) (.inv (.ix (.var 3) (.int 0)))) .nil))) jr
def ju:Ss:=.cons (.set 4 (.fn 0 (.cons (.bin .BitAnd (.ix (.var 3) (.int 0)) (.inv (.ix (.var 3) (.int 1)))) .nil))) jt
def cZ:Ss:=.cons (.set 3 (.mu "narrowed" (.var 0) (.cons (.var 1) (.cons (.var 2) .nil)))) ju
def gh(sh:Addr)(s u:Nat):List (Str×D):=[("sheet",.ref sh),("sure",.int (s:Int)),("unsure",.int (u:Int))]
def mo:List Str:=["sheet", "sure", "unsure"]
structure GroveAt (c:CA) (S V:Addr) (M:MH) (a:Addr) (m:Nat) (rows:List Row) (s u:Nat):Prop where
 ex:∃sh,M a=some (.ins V (gh sh s u))/\SheetAt c S M sh m rows
 few:rows.length<64
 mlt:m<64
 slt:s<2 ^ m
 ult:u<2 ^ m
theorem GroveAt.ext{c:CA}{S V:Addr}{M M':MH}{a:Addr}{m:Nat}{rows:List Row}{s u:Nat}(e:Ext M M')(h:GroveAt c S V M a m rows s u):GroveAt c S V M' a m rows s u:=by
 obtain⟨⟨sh,h1,h2⟩,h3,h4,h5,h6⟩:=h;exact⟨⟨sh,e _ _ h1,h2.ext e⟩,h3,h4,h5,h6⟩
abbrev gamG(rows:List Row)(s u:Nat):Nat->Nat:=fun g=>cv rows g s u
def jY(c:CA)(S V:Addr):SpD:=fun ds M Q=>∃(a:Addr) (m:Nat) (rows:List Row) (s u g:Nat),ds=[.ref a,.int (g:Int)]/\GroveAt c S V M a m rows s u/\∀M',Ext M M'->Q (.int (gamG rows s u g:Nat)) M'
def lN(c:CA)(S V:Addr):SpD:=fun ds M Q=>∃(a:Addr) (m:Nat) (rows:List Row) (s u:Nat) (y:Nat×Nat),ds=[.ref a,.int (y.1:Int),.int (y.2:Int)]/\GroveAt c S V M a m rows s u/\y.1<2 ^ m/\y.2<2 ^ m /\
 ∀w M',Nar (gamG rows s u) y w->w.1<2 ^ m->w.2<2 ^ m->Ext M M'->Q (aD w) M'
def gap(m:Nat)(y:Nat×Nat):Nat:=cnt m y.2-cnt m y.1
def lO(c:CA)(S V:Addr)(d:Nat):SpD:=fun ds M Q=>∃(a:Addr) (m:Nat) (rows:List Row) (s u:Nat) (y:Nat×Nat),ds=[.ref a,.int (y.1:Int),.int (y.2:Int)]/\GroveAt c S V M a m rows s u/\y.1<2 ^ m/\y.2<2 ^ m/\gap m y<d /\
 ∀t M',Told (gamG rows s u) y t->t.deep<d->Ext M M'->Q t.told M'
def oM(c:CA)(S V:Addr)(d:Nat):SpD:=fun ds M Q=>∃(a:Addr) (m:Nat) (rows:List Row) (s u:Nat),ds=[.ref a]/\GroveAt c S V M a m rows s u/\m<d /\
 ∀t M',Told (gamG rows s u) (s,s|||u) t->t.deep<d->Ext M M'->Q t.told M'
def eO(c:CA)(S V:Addr):SpD:=fun ds M Q=>∃(a sh:Addr) (m:Nat) (rows:List Row) (told:Nat),ds=[.ref a,.ref sh,.int (told:Int)]/\M a=some (.ins V [])/\SheetAt c S M sh m rows/\rows.length<64/\m<=12/\told<2 ^ m /\
 ∀s U M',IsRoot rows told s U->ExtBut a M M'->GroveAt c S V M' a m rows s (ac U s)->Q .non M'
section
variable {sh : Addr} {s u : Nat}
theorem AL:(gh sh s u).lookup ("sheet" : Str)=some (.ref sh):=rfl
theorem xo:(gh sh s u).lookup ("sure" : Str)=some (.int (s:Int)):=rfl
theorem qw:(gh sh s u).lookup ("unsure" : Str)=some (.int (u:Int)):=rfl
theorem oN:(gh sh s u).lookup ("least_against" : Str)=none:=rfl
theorem sR:(gh sh s u).lookup ("narrowed" : Str)=none:=rfl
theorem xp:(gh sh s u).lookup ("told_node" : Str)=none:=rfl
theorem Ku:(gh sh s u).lookup ("root_node" : Str)=none:=rfl
end
abbrev vF1(x:D):List (Str×D):=[("sheet",x)]
abbrev vF2(x y:D):List (Str×D):=[("sheet",x),("sure",y)]
theorem vp0(x:D):cq ("sheet" : Str) x []=vF1 x:=rfl
theorem vp1(x y:D):cq ("sure" : Str) y (vF1 x)=vF2 x y:=rfl
theorem vp2(x y z:D):cq ("unsure" : Str) z (vF2 x y)=([("sheet",x),("sure",y),("unsure",z)]:List (Str×D)):=rfl
theorem cw(a b:Nat):ac a b<=a:=by have:=dR a b;omega
theorem cx{a b:Nat}:ac a b=0↔a&&&b=a:=by have:=dR a b;omega
theorem AM(a b:Nat):(((ac a b:Nat):Int)==0)=decide (a&&&b=a):=by
 by_cases h:a&&&b=a
 ·rw[decide_eq_true h,cx.2 h];rfl
 ·rw[decide_eq_false h,beq_eq_false_iff_ne]
  intro z;exact h (cx.1 (by omega))
theorem LZ(a b:Nat):(!((a:Int)==(b:Int))) = !decide (a=b):=by
 by_cases h:a=b
 ·subst h;simp
 ·rw[decide_eq_false h,beq_false_of_ne (by omega)]
theorem oO{n:Nat}:memb n=[]↔n=0:=by
 constructor
 ·intro h
  refine Nat.eq_of_testBit_eq fun f=>?_
  rw[Nat.zero_testBit];cases e:n.testBit f with
  |false=>rfl
  |true=>
   have:=(br n f).2 e
   rw[h] at this;cases this
 ·rintro rfl
  rfl
theorem ie{a b V:Addr}{M:MH}{o:MO}(ha:M a=some (.ins V []))(hb:M b=some o)(h:o≠.ins V []):hid a M b=some o:=by
 rw[qr]
 ·exact hb
 ·intro z;subst z;rw[ha] at hb;cases hb;exact h rfl
theorem SheetAt.hid{c:CA}{S V a sh:Addr}{M:MH}{m:Nat}{rows:List Row}(ha:M a=some (.ins V []))(h:SheetAt c S M sh m rows):SheetAt c S (SH.hid a M) sh m rows:=by
 obtain⟨ok,crs,p1,p2,p3,ps1,ps2,ps3,h1,h2,⟨h3,h4,h5⟩,⟨h6,h7⟩,h8,h9,h10⟩:=h;refine⟨ok,crs,p1,p2,p3,ps1,ps2,ps3,ie ha h1 (fun w=>by cases w),?_,⟨ie ha h3 (fun w=>by cases w),h4,fun f r hr=>ie ha (h5 f r hr) (fun w=>by cases w)⟩,⟨ie ha h6 (fun w=>by cases w),h7.1,fun k r x q1 q2=>ie ha (h7.2 k r x q1 q2) (fun w=>by cases w)⟩,ie ha h8 (fun w=>by cases w),h9,fun f r hr=>ie ha (h10 f r hr) (fun w=>by cases w)⟩;exact kC (fun rs x hr=>kC (fun r t hrt=>ie ha hrt (fun w=>by cases t<;>cases w)) hr) h2
section
variable {cn : Cn} {ds : List D} {M : MH} {Q : DK} {c : CA} {S Z V : Addr}
theorem t6(hO:∀f∈mo,cn.O V f)(f0:cn.F.getD 0 (fun _ _ _=>False)=dF c S)(h:jY c S V ds M Q):wSs cn bU (fin Q) (ag ["", ""] ds) M:=by
 obtain⟨a,m,rows,s,u,g,rfl,⟨⟨sh,h1,h2⟩,hn,hm,hs,hu⟩,q⟩:=h;show wSs cn bU (fin Q) [some (.ref a),some (.int (g:Int))] M;unfold bU;simp! only[List.set,h1,AL,xo,qw,f0];exact⟨hO _ (by decide +kernel),hO _ (by decide +kernel),hO _ (by decide +kernel),sh,m,rows,u,s,g,rfl,h2,hn,hm,hu,hs,q⟩
theorem Kv{rows:List Row}{s u m:Nat}(hs:s<2 ^ m)(hu:u<2 ^ m)(g:Nat):gamG rows s u g<2 ^ m:=xl hs hu
theorem Io{rows:List Row}{s u m:Nat}(hs:s<2 ^ m)(hu:u<2 ^ m){y:Nat×Nat}(h1:y.1<2 ^ m)(h2:y.2<2 ^ m):(ax (gamG rows s u) y).1<2 ^ m/\(ax (gamG rows s u) y).2<2 ^ m:=
 ⟨Nat.or_lt_two_pow h1 (Kv hs hu _),Nat.lt_of_le_of_lt Nat.and_le_left h2⟩
theorem CH (hT:cn.T V "least_against" = some (jY c S V)) (h:lN c S V ds M Q):wSs cn dg (fin Q) (ag ["", "", "", "", ""] ds) M:=by
 obtain ⟨a,m,rows,s,u,y0,rfl,A,b1,b2,q⟩:=h
 show wSs cn dg (fin Q) [some (.ref a),some (.int (y0.1:Int)),some (.int (y0.2:Int)),none,none] M
 obtain ⟨sh,h1,-⟩:=A.ex
 have hs:=A.slt
 have hu:=A.ult
 unfold dg
 simp! only [List.set,h1,oN,hT]
 refine ⟨trivial,a,m,rows,s,u,y0.2,rfl,A,fun M1 e1=>?_⟩
 simp! only [fZ]
 unfold jM
 simp! only [List.set,e1 _ _ h1,oN,hT]
 refine ⟨trivial,a,m,rows,s,u,_,rfl,A.ext e1,fun M2 e2=>?_⟩
 simp! only [jS]
 have e12:=e1.trans e2
 unfold jL
 show kG _ _ _ _ _
 refine ⟨fun k σ M'=>∃ y:Nat × Nat,farP m (y.2,y.1) = k/\σ = [some (.ref a),some (.int (y.1:Int)),some (.int (y.2:Int)),some (.int ((ax (gamG rows s u) y).1:Int)),some (.int ((ax (gamG rows s u) y).2:Int))] /\
  Ext M M'/\y.1 < 2 ^ m/\y.2 < 2 ^ m/\∀ w,Nar (gamG rows s u) y w->Nar (gamG rows s u) y0 w,?_,?_⟩
 ·exact ⟨_,y0,rfl,rfl,e12,b1,b2,fun w h=>h⟩
 rintro k σ M' ⟨y,rfl,rfl,e3,c1,c2,hw⟩
 obtain ⟨d1,d2⟩:=Io (rows:=rows) hs hu c1 c2
 have test:∀ K:Bool->MH->Prop,K (decide ((ax (gamG rows s u) y).1 &&& (ax (gamG rows s u) y).2 = (ax (gamG rows s u) y).1) && !decide (ax (gamG rows s u) y = y)) M' ->
   wT cn (.and (.cmp .Eq (.bin .BitAnd (.var 3) (.inv (.var 4))) (.int 0)) (.or (.cmp .NotEq (.var 3) (.var 1)) (.cmp .NotEq (.var 4) (.var 2)))) [some (.ref a),some (.int (y.1:Int)),some (.int (y.2:Int)),some (.int ((ax (gamG rows s u) y).1:Int)),some (.int ((ax (gamG rows s u) y).2:Int))] M' K:=by
  intro K hK
  simp! only [aj,ak,au,al,ai,av,ah,am,Nat.zero_le,and_self,true_and,and_true,wInv,List.set,bF,AM,LZ]
  generalize ax (gamG rows s u) y = z at *
  cases t1:decide (z.1 &&& z.2 = z.1) with
  | false=>rw [t1,Bool.false_and] at hK; exact hK
  | true=>
   rw [t1,Bool.true_and] at hK
   by_cases e1:z.1 = y.1
   ·by_cases e2:z.2 = y.2
    ·have:z = y:=Prod.ext e1 e2
     rw [decide_eq_true this] at hK
     rw [decide_eq_true e1,decide_eq_true e2]
     exact hK
    ·have:z ≠ y:=fun w=>e2 (congrArg Prod.snd w)
     rw [decide_eq_false this] at hK
     rw [decide_eq_true e1,decide_eq_false e2]
     exact hK
   ·have:z ≠ y:=fun w=>e1 (congrArg Prod.fst w)
    rw [decide_eq_false this] at hK
    rw [decide_eq_false e1]
    exact hK
 refine test _ ?_
 by_cases hgo:(ax (gamG rows s u) y).1 &&& (ax (gamG rows s u) y).2 = (ax (gamG rows s u) y).1/\ax (gamG rows s u) y ≠ y
 ·rw [decide_eq_true hgo.1,decide_eq_false hgo.2,Bool.not_false,Bool.and_true,aU]
  have far:=yv hgo.2 c2 d1
  refine ⟨fun σ' M''=>∃ k',k' < farP m (y.2,y.1)/\_,fun σ' M'' h=>h,?_⟩
  have A3:=A.ext e3
  have h3:=e3 _ _ h1
  have hw2:∀ w,Nar (gamG rows s u) (ax (gamG rows s u) y) w->Nar (gamG rows s u) y0 w:=fun w h=>hw w (.go hgo.1 hgo.2 h)
  generalize ax (gamG rows s u) y = z at *
  unfold jK
  simp! only [List.set]
  unfold jJ
  simp! only [List.set]
  unfold jI
  simp! only [List.set,h3,oN,hT]
  refine ⟨trivial,a,m,rows,s,u,z.2,rfl,A3,fun M4 e4=>?_⟩
  simp! only [fZ]
  unfold jH
  simp! only [List.set,e4 _ _ h3,oN,hT]
  refine ⟨trivial,a,m,rows,s,u,_,rfl,A3.ext e4,fun M5 e5=>?_⟩
  simp! only [jS]
  exact ⟨_,far,z,rfl,rfl,e3.trans (e4.trans e5),d1,d2,hw2⟩
 ·have hno:(decide ((ax (gamG rows s u) y).1 &&& (ax (gamG rows s u) y).2 = (ax (gamG rows s u) y).1) && !decide (ax (gamG rows s u) y = y)) = false:=by
   by_cases e1:(ax (gamG rows s u) y).1 &&& (ax (gamG rows s u) y).2 = (ax (gamG rows s u) y).1
   ·have e2:ax (gamG rows s u) y = y:=Classical.byContradiction fun w=>hgo ⟨e1,w⟩
    rw [decide_eq_true e2,Bool.not_true,Bool.and_false]
   ·rw [decide_eq_false e1,Bool.false_and]
  rw [hno,aM]
  dsimp only
  unfold jG
  simp! only [List.set]
  exact q _ M' (hw _ (.stop hgo)) d1 d2 e3
theorem L0{m:Nat}{y w:Nat×Nat}(h1:Sub y.1 w.1)(h2:Sub w.2 y.2):gap m w<=gap m y:=by
 unfold gap
 have:=lT (m:=m) h1
 have:=lT (m:=m) h2
 omega
theorem Ip{m f:Nat}{w:Nat×Nat}(hs:Sub w.1 w.2)(h1:w.1.testBit f=false)(h2:w.2.testBit f=true)(b:w.2<2 ^ m):gap m (w.1|||2 ^ f,w.2)<gap m w:=by
 unfold gap;have hb:(w.1|||2 ^ f).testBit f=true:=by rw[Nat.testBit_or,Nat.testBit_two_pow_self,Bool.or_true]
 have hsub:Sub (w.1|||2 ^ f) w.2:=hs.or fun g hg=>by
  rw[Nat.testBit_two_pow] at hg;have:f=g:=of_decide_eq_true hg
  subst this;exact h2
 have a1:=rS (m:=m) (Sub.or_l w.1 (2 ^ f)) (fun z=>by rw[←z,h1] at hb;cases hb) (Nat.lt_of_le_of_lt hsub.le b);have a2:=lT (m:=m) hsub;show cnt m w.2-cnt m (w.1|||2 ^ f)<cnt m w.2-cnt m w.1;omega
theorem CI{m f:Nat}{w:Nat×Nat}(hs:Sub w.1 w.2)(h1:w.1.testBit f=false)(h2:w.2.testBit f=true)(b:w.2<2 ^ m):gap m (w.1,ac w.2 (2 ^ f))<gap m w:=by
 unfold gap;have hb:(ac w.2 (2 ^ f)).testBit f=false:=by rw[aN,Nat.testBit_two_pow_self,Bool.not_true,Bool.and_false]
 have hsub:Sub (ac w.2 (2 ^ f)) w.2:=fun g hg=>by rw[aN,Bool.and_eq_true] at hg;exact hg.1
 have hlow:Sub w.1 (ac w.2 (2 ^ f)):=fun g hg=>by
  rw[aN,hs g hg,Nat.testBit_two_pow];cases e:decide (f=g) with
  |false=>rfl
  |true=>
   have:f=g:=of_decide_eq_true e
   subst this;rw[h1] at hg;cases hg
 have a1:=rS (m:=m) hsub (fun z=>by rw[z,h2] at hb;cases hb) b;have a2:=lT (m:=m) hlow;show cnt m (ac w.2 (2 ^ f))-cnt m w.1<cnt m w.2-cnt m w.1;omega
theorem AN{d:Nat}(hT:cn.T V "narrowed" = some (lN c S V))(hT2:cn.T V "told_node" = some (lO c S V d))(f0:cn.F.getD 0 (fun _ _ _=>False)=bY)(h:lO c S V (d+1) ds M Q):wSs cn cZ (fin Q) (ag ["", "", "", "", "", "", "", ""] ds) M:=by
 obtain⟨a,m,rows,s,u,y,rfl,A,b1,b2,hg,q⟩:=h;show wSs cn cZ (fin Q) [some (.ref a),some (.int (y.1:Int)),some (.int (y.2:Int)),none,none,none,none,none] M;obtain⟨sh,h1,-⟩:=A.ex;have hm:=A.mlt;have p64:∀{n:Nat},n<2 ^ m->n<2 ^ 1000:=fun h=>Nat.lt_of_lt_of_le h (Nat.pow_le_pow_right (by decide) (by omega))
 unfold cZ;simp! only[List.set,h1,sR,hT];refine⟨trivial,a,m,rows,s,u,y,rfl,A,b1,b2,fun w M1 N1 w1 w2 e1=>?_⟩;have mono:=N1.mono;unfold ju;simp! only[aD,wInv,List.set,at0,at1,bF,f0];refine⟨ac w.1 w.2,rfl,p64 (Nat.lt_of_le_of_lt (cw _ _) w1),fun p1 M2 hp1 e2 g2=>?_⟩;unfold jt;simp! only[wInv,List.set,at0,at1,bF,f0];refine⟨ac w.2 w.1,rfl,p64 (Nat.lt_of_le_of_lt (cw _ _) w2),fun p2 M3 hp2 e3 g3=>?_⟩;have e03:=e1.trans (e2.trans e3);have g2':=e3 _ _ g2;unfold jr;simp! only[List.set,g2',cG];cases m1:memb (ac w.1 w.2) with
 |cons f r=>
  rw[m1] at g2';rw[decide_eq_true (by rw[List.length_cons];omega)];simp! only[g2',show nats (f::r)=.int (f:Int)::nats r from rfl,at0];exact q (.broken f) M3 (.broken N1 m1) (Nat.succ_pos _) e03
 |nil=>
  have z1:ac w.1 w.2=0:=oO.1 m1;have hs:Sub w.1 w.2:=bP.1 (cx.1 z1);show wSs cn d0 _ _ M3;unfold d0;simp_all! only[List.set,g3,cG,at0];cases m2:memb (ac w.2 w.1) with
  |nil=>
   have z2:ac w.2 w.1=0:=oO.1 m2;have hs2:Sub w.2 w.1:=bP.1 (cx.1 z2);exact q (.world w.1) M3 (.world N1 (hs.antisymm hs2)) (Nat.succ_pos _) e03
  |cons f r=>
   rw[beq_false_of_ne (by rw[List.length_cons];omega)];show wSs cn dZ _ _ M3;have hf:(ac w.2 w.1).testBit f=true:=(br _ _).1 (by rw[m2];exact .head _);rw[aN,Bool.and_eq_true,Bool.not_eq_true'] at hf;have hfm:f<m:=eB w2 hf.1;rw[m2] at g3;have G3:nats (f::r)=.int (f:Int)::nats r:=rfl;unfold dZ;simp! only[List.set,g3,G3,at0];refine⟨⟨by omega,by omega,by decide⟩,?_⟩;rw[nB];unfold jq;simp! only[List.set,at0,at1,fZ,e03 _ _ h1,xp,hT2];have gw:=L0 (m:=m) mono.1 mono.2;refine⟨trivial,a,m,rows,s,u,(w.1|||2 ^ f,w.2),rfl,A.ext e03,Nat.or_lt_two_pow w1 (Nat.pow_lt_pow_right (by decide) hfm),w2,?_,fun t1 M4 T1 d1 e4=>?_⟩
   ·have:=Ip hs hf.2 hf.1 w2
    omega
   have e04:=e03.trans e4;unfold jp;simp! only[wInv,List.set,at0,at1,bF,e04 _ _ h1,xp,hT2,e4 _ _ g3,G3];refine⟨trivial,a,m,rows,s,u,(w.1,ac w.2 (2 ^ f)),rfl,A.ext e04,w1,Nat.lt_of_le_of_lt (cw _ _) w2,?_,fun t2 M5 T2 d2 e5=>?_⟩
   ·have:=CI hs hf.2 hf.1 w2
    omega
   exact q (.split f t1 t2) M5 (.split N1 hs m2 T1 T2) (by show max t1.deep t2.deep+1<d+1;omega) (e04.trans e5)
theorem AO{d:Nat}(hO:∀f∈mo,cn.O V f)(hT:cn.T V "told_node" = some (lO c S V d))(h:oM c S V d ds M Q):wSs cn cY (fin Q) (ag [""] ds) M:=by
 obtain⟨a,m,rows,s,u,rfl,A,hd,q⟩:=h;show wSs cn cY (fin Q) [some (.ref a)] M;obtain⟨sh,h1,-⟩:=A.ex;have o1:=hO "sure" (by decide +kernel);have o2:=hO "unsure" (by decide +kernel);unfold cY;simp! only[List.set,h1,xo,qw,fZ,xp,hT];have hu:=Nat.or_lt_two_pow A.slt A.ult;have hgap:gap m (s,s|||u)<d:=by
  unfold gap
  have:=xm m (s|||u)
  show cnt m (s|||u)-cnt m s<d;omega
 first
  |exact⟨trivial,o1,o1,o2,a,m,rows,s,u,(s,s|||u),rfl,A,A.slt,hu,hgap,q⟩
  |exact⟨o1,o1,o2,trivial,a,m,rows,s,u,(s,s|||u),rfl,A,A.slt,hu,hgap,q⟩
theorem yL{j:Nat}(gj:cn.G.getD j .non=.int 12)(hO:∀f∈mo,cn.O V f)(hT1:cn.T Z "true_facts" = some (ib Z))(hT2:cn.T Z "open_facts" = some (ic Z))(f0:cn.F.getD 0 (fun _ _ _=>False)=bY)(f1:cn.F.getD 1 (fun _ _ _=>False)=aX Z (iy c S Z))
  (h:eO c S V ds M Q):wSs cn (eD j) (fin Q) (ag ["", "", "", "", ""] ds) M:=by
 obtain⟨a,sh,m,rows,told,rfl,ha,A,hn,hm,ht,q⟩:=h;show wSs cn (eD j) (fin Q) [some (.ref a),some (.ref sh),some (.int (told:Int)),none,none] M;have hpos:1<=2 ^ m:=Nat.one_le_two_pow;unfold eD;simp! only[List.set,f1];intro z hz;have ez:Ext M (updM M z (.ins Z [])):=Ext.new hz;refine⟨z,sh,m,rows,told,rfl,ab,A.ext ez,hn,by omega,ht,fun ps x M1 b1 Z1 R=>⟨rfl,?_⟩⟩;have e1:Ext M M1:=ExtBut.ext ez b1 hz;obtain⟨zp,z1,z2⟩:=Z1.ex;have ha1:=e1 _ _ ha;have haz:a≠z:=bK ha hz;have A1:=A.ext e1;have bit:∀f,f<m->(2 ^ m-1).testBit f=true:=fun f hf=>by rw[Nat.testBit_two_pow_sub_one];exact decide_eq_true hf
 have lt2:x.1<2 ^ m/\x.2<2 ^ m:=by
  have:=R.last x (by rw[List.getLast?_append];simp)
  rw[←this];exact AI (by omega) ht ht x.2
 obtain⟨L1,L2,S1,Lz⟩:=E5 (fun x hx=>bit x.1 (A.ok.fit x hx).1) R;clear R b1 ez hz;unfold fK;simp! only[List.set,z1,DX,hT2,f0];refine⟨trivial,z,m,ps,x,rfl,Z1,ac x.1 x.2,rfl,Nat.lt_of_lt_of_le (Nat.lt_of_le_of_lt (cw _ _) lt2.1) (Nat.pow_le_pow_right (by decide) (by omega)),fun p2 M2 hp2 e2 g2=>?_⟩;simp! only[g2,cG];have hlen:=AD (Nat.lt_of_le_of_lt (cw x.1 x.2) lt2.1);unfold fJ;simp! only[List.set,gj];rw[decide_eq_false (by omega)];show wSs cn cX _ _ M2;have ha2:=e2 _ _ ha1;have z12:=ie ha2 (e2 _ _ z1) (fun w=>by cases w);have z22:=ie ha2 (e2 _ _ z2) (fun w=>by cases w);have A2:=(A1.ext e2).hid ha2;have b2:ExtBut a M M2:=(e1.trans e2).but;clear e1 ha1 z1 z2 Z1 A1 e2 g2 hp2;clear M1;have O1:=hO "sheet" (by decide +kernel);have O2:=hO "sure" (by decide +kernel);have O3:=hO "unsure" (by decide +kernel);have Z2:SortAt Z (hid a M2) z m ps x:=⟨zp,z12,z22⟩;unfold cX;simp! only[List.set,ha2,vp0];refine⟨⟨O1,by decide⟩,?_⟩;have b3:=b2.trans (ExtBut.upd a M2 (.ins V (vF1 (.ref sh))));have ha3:updM M2 a (MO.ins V (vF1 (.ref sh))) a=some (.ins V (vF1 (.ref sh))):=ab;have hh:=eJ a M2 (.ins V (vF1 (.ref sh)));generalize updM M2 a (MO.ins V (vF1 (.ref sh)))=M3 at *;rw[←hh] at A2 Z2 z12;clear hh b2 ha2 z22;clear M2;unfold fI;simp! only[List.set,cR a M3 _ _ z12,Ks,hT1];refine⟨trivial,z,m,ps,x,rfl,Z2.ext (cR a M3),?_⟩;simp only[ha3,vp1];refine⟨⟨O2,(by decide:(1:Nat)<1000)⟩,?_⟩;have b4:=b3.trans (ExtBut.upd a M3 (.ins V (vF2 (.ref sh) (.int (x.2:Int)))));have ha4:updM M3 a (MO.ins V (vF2 (.ref sh) (.int (x.2:Int)))) a=some (.ins V (vF2 (.ref sh) (.int (x.2:Int)))):=ab;have hh:=eJ a M3 (.ins V (vF2 (.ref sh) (.int (x.2:Int))));generalize updM M3 a (MO.ins V (vF2 (.ref sh) (.int (x.2:Int))))=M4 at *;rw[←hh] at A2 Z2 z12;clear hh b3 ha3;clear M3;unfold fH;simp! only[List.set,cR a M4 _ _ z12,DX,hT2];refine⟨trivial,z,m,ps,x,rfl,Z2.ext (cR a M4),?_⟩;simp only[ha4,vp2];refine⟨⟨O3,(by decide:(2:Nat)<1000)⟩,?_⟩;refine q x.2 x.1 _ ⟨L1,L2,S1,Lz⟩ (b4.trans (ExtBut.upd _ _ _)) ⟨⟨sh,ab,?_⟩,hn,by omega,lt2.2,Nat.lt_of_le_of_lt (cw _ _) lt2.1⟩;rw[←eJ a M4 (.ins V [("sheet",.ref sh),("sure",.int (x.2:Int)),("unsure",.int (ac x.1 x.2:Nat))])] at A2;exact A2.ext (cR _ _)
end
end SH
namespace SH
open PySem L2 DD
def jv:Ss:=.cons (.ret (.fn 0 (.cons (.fn 1 (.cons (.var 0) (.cons (.var 1) .nil))) .nil))) .nil
def dH(d:Nat):SpD:=fun ds M Q=>∃t:Tr,ds=[t.told]/\t.deep<d/\d<=16/\∀p M',M p=none->Ext M M'->M' p=some (.lst (nats t.worlds))->Q (.ref p) M'
def jZ(c:CA)(S:Addr):SpD:=fun ds M Q=>∃(sh:Addr) (m:Nat) (rows:List Row) (told:Nat),ds=[.ref sh,.int (told:Int)]/\SheetAt c S M sh m rows/\rows.length<64/\m<=12/\told<2 ^ m /\
 ∀s U t M',IsRoot rows told s U->Told (gamG rows s (ac U s)) (s,U) t->t.deep<13->Ext M M'->Q t.told M'
def lP(c:CA)(S:Addr):SpD:=fun ds M Q=>∃(sh:Addr) (m:Nat) (rows:List Row) (told:Nat),ds=[.ref sh,.int (told:Int)]/\SheetAt c S M sh m rows/\rows.length<64/\m<=12/\told<2 ^ m /\
 ∀s U t p M',IsRoot rows told s U->Told (gamG rows s (ac U s)) (s,U) t->M p=none->Ext M M'->M' p=some (.lst (nats t.worlds))->Q (.ref p) M'
theorem s_bb:(("broken" : Str) == "broken")=true:=beq_self_eq_true _
theorem s_ww:(("world" : Str) == "world")=true:=beq_self_eq_true _
theorem s_wb:(("world" : Str) == "broken")=false:=by decide +kernel
theorem s_pb:(("split" : Str) == "broken")=false:=by decide +kernel
theorem s_pw:(("split" : Str) == "world")=false:=by decide +kernel
theorem at3{α:Type}(x y z u:α)(xs:List α):atI (x::y::z::u::xs) 3=some u:=gn (j:=3) rfl
theorem gD:∀t:Tr,t.worlds.length<=2 ^ t.deep
 |.broken _=>Nat.zero_le _
 |.world _=>Nat.le_refl _
 |.split _ a b=>by
  have h1:=gD a;have h2:=gD b;have e1:2 ^ a.deep<=2 ^ max a.deep b.deep:=Nat.pow_le_pow_right (by decide) (by omega);have e2:2 ^ b.deep<=2 ^ max a.deep b.deep:=Nat.pow_le_pow_right (by decide) (by omega);show(a.worlds++b.worlds).length<=2 ^ (max a.deep b.deep+1);rw[List.length_append,Nat.pow_succ];omega
theorem yw(a b:List Nat):nats a++nats b=nats (a++b):=by unfold nats;rw[List.map_append]
theorem yx(p:Nat->Bool)(q:D->Bool)(h:∀n:Nat,q (.int (n:Int))=p n)(ws:List Nat):([]++(nats ws).filter q)=nats (ws.filter p):=by
 unfold nats;rw[List.nil_append,List.filter_map];congr 1;exact List.filter_congr fun n _=>h n
section
variable {cn : Cn} {ds : List D} {M : MH} {Q : DK} {c : CA} {S V : Addr}
theorem xq{d:Nat}(f0:cn.F.getD 0 (fun _ _ _=>False)=dH d)(h:dH (d+1) ds M Q):wSs cn cz (fin Q) (ag [""] ds) M:=by
 obtain⟨t,rfl,hd,h16,q⟩:=h;show wSs cn cz (fin Q) [some t.told] M;cases t with
 |broken f=>
  unfold cz;simp_all! only[Tr.told,at0,at1,s_bb];exact fun p hp=>q p _ hp (Ext.new hp) ab
 |world s=>
  unfold cz;simp_all! only[Tr.told,at0,at1,s_wb];unfold iN;simp_all! only[Tr.told,at0,at1,s_ww];exact fun p hp=>q p _ hp (Ext.new hp) ab
 |split f a b=>
  have hd:max a.deep b.deep+1<d+1:=hd;unfold cz;simp_all! only[Tr.told,at0,at1,s_pb];unfold iN;simp_all! only[Tr.told,at0,at1,s_pw];unfold ml;simp_all! only[Tr.told,at0,at1,at2,at3,f0];refine⟨a,rfl,by omega,by omega,fun p1 M1 hp1 e1 g1=>?_⟩;refine⟨b,rfl,by omega,by omega,fun p2 M2 hp2 e2 g2=>?_⟩;simp! only[e2 _ _ g1,g2,cG];have l1:=Nat.le_trans (gD a) (Nat.pow_le_pow_right (n:=2) (by decide) (by omega:a.deep<=16));have l2:=Nat.le_trans (gD b) (Nat.pow_le_pow_right (n:=2) (by decide) (by omega:b.deep<=16));have hsz:(200000:Nat)<sizeLine:=by decide
  refine⟨by omega,fun p3 hp3=>?_⟩;rw[yw];exact q p3 _ ((e1.trans e2).free hp3) ((e1.trans e2).then hp3) ab
theorem E6{d:Nat}(hd:d=13)(hT:cn.T V "root_node" = some (oM c S V d))(f0:cn.F.getD 0 (fun _ _ _=>False)=aX V (eO c S V))(h:jZ c S ds M Q):wSs cn lM (fin Q) (ag ["", ""] ds) M:=by
 obtain⟨sh,m,rows,told,rfl,A,hn,hm,ht,q⟩:=h;show wSs cn lM (fin Q) [some (.ref sh),some (.int (told:Int))] M;unfold lM;simp! only[List.set,f0];intro v hv;have ev:Ext M (updM M v (.ins V [])):=Ext.new hv;refine⟨v,sh,m,rows,told,rfl,ab,A.ext ev,hn,hm,ht,fun s U M1 R b1 G1=>⟨rfl,?_⟩⟩;have e1:Ext M M1:=ExtBut.ext ev b1 hv;obtain⟨sh',g1,-⟩:=G1.ex;simp! only[g1,Ku,hT];refine⟨trivial,v,m,rows,s,ac U s,rfl,G1,by omega,fun t M2 T hdp e2=>?_⟩;rw[yt R.su] at T;exact q s U t M2 R T (by omega) (e1.trans e2)
theorem AQ(f0:cn.F.getD 0 (fun _ _ _=>False)=dH 13)(f1:cn.F.getD 1 (fun _ _ _=>False)=jZ c S)(h:lP c S ds M Q):wSs cn jv (fin Q) (ag ["", ""] ds) M:=by
 obtain⟨sh,m,rows,told,rfl,A,hn,hm,ht,q⟩:=h;show wSs cn jv (fin Q) [some (.ref sh),some (.int (told:Int))] M;unfold jv;simp! only[List.set,f0,f1];refine⟨sh,m,rows,told,rfl,A,hn,hm,ht,fun s U t M1 R T hd e1=>?_⟩;exact⟨t,rfl,hd,by decide,fun p M2 hp e2 g2=>q s U t p M2 R T (e1.free hp) (e1.trans e2) g2⟩
theorem Kw{α:Type}(l:List α):(((l.length:Nat):Int)==0)=decide (l.length=0):=by
 cases l with
 |nil=>rfl
 |cons a l=>rw[decide_eq_false (by rw[List.length_cons];omega),beq_eq_false_iff_ne,List.length_cons];omega
end
end SH
namespace SH
open PySem L2 DD
def nD:Ss:=.cons (.ret (.var 3)) .nil
def gE:Ss:=.cons (.ite (.and (.cmp .Eq (.bin .BitAnd (.bin .RShift (.var 4) (.var 5)) (.int 1)) (.int 0)) (.val (.fn 0 (.cons (.var 6) (.cons (.var 3) (.cons (.var 2) .nil)))))) (.cons (.set 4 (.bin .BitOr (.var 4) (.bin .LShift (.int 1) (.var 5)))) .nil) .nil) .nil
def nE:Ss:=.cons (.for (.tp [5,6]) (.seq (.var 0)) gE) .nil
def nF:Ss:=.cons (.set 3 (.var 4)) nE
def nG:Ss:=.cons (.while (.cmp .NotEq (.var 4) (.var 3)) nF) nD
def nH:Ss:=.cons (.set 4 (.var 1)) nG
def jw:Ss:=.cons (.set 3 (.neg (.int 1))) nH
def gF:SpD:=fun ds M Q=>∃(p:Addr) (m:Nat) (rds:List D) (rows:List Row) (told g:Nat),ds=[.ref p,.int (told:Int),.int (g:Int)]/\M p=some (.lst rds)/\aL M rds rows/\RowsOk m rows/\told<2 ^ m /\
 ∀(n:Nat) M',aF rows told g n->n<2 ^ m->Ext M M'->Q (.int (n:Int)) M'
section
variable {cn : Cn} {ds : List D} {M : MH} {Q : DK} {c : CA} {S Z : Addr}
theorem AR (f0:cn.F.getD 0 (fun _ _ _=>False) = oK) (h:gF ds M Q):wSs cn jw (fin Q) (ag ["", "", "", "", "", "", ""] ds) M:=by
 obtain ⟨p,m,rds,rows,told,g,rfl,hp,hR,ok,ht,q⟩:=h
 show wSs cn jw (fin Q) [some (.ref p),some (.int (told:Int)),some (.int (g:Int)),none,none,none,none] M
 have hok:∀ x ∈ rows,∀ t ∈ x.2,CT.ok t:=fun x hx t ht=>CT.fit_ok (by have:=ok.most; omega) ((ok.fit x hx).2.2 t ht)
 have okm:=ok.most
 have body:∀ (E:EndsD) (h more:Nat) (x:Row) (q1:Addr) (M5:MH),x.1 < m->(∀ t ∈ x.2,t.ok)->M5 q1 = some (.lst (x.2.map CT.told)) ->
   (∀ more' M6,Ext M5 M6->Sub more more'->(a9 h g x = true->more'.testBit x.1 = true)->(∀ s,(a9 h g x = true->s.testBit x.1 = true)->Sub more s->Sub more' s)->(more < 2 ^ m->more' < 2 ^ m)->E.nx [some (.ref p),some (.int (told:Int)),some (.int (g:Int)),some (.int (h:Int)),some (.int (more':Int)),some (.int (x.1:Int)),some (.ref q1)] M6) ->
   wSs cn gE E [some (.ref p),some (.int (told:Int)),some (.int (g:Int)),some (.int (h:Int)),some (.int (more:Int)),some (.int (x.1:Int)),some (.ref q1)] M5:=by
  intro E h more x q1 M5 hx ht hq1 kk
  unfold gE
  simp! only [aj,ak,au,al,ai,av,ah,am,Nat.zero_le,and_self,true_and,and_true,List.set,f0]
  refine ⟨by omega,?_⟩
  rw [PyProof.Rows.bitAnd_m1]
  show Bif (bitZ (more:Int) (x.1:Int) == 0) _ _
  rw [Ag,fY]
  cases b:more.testBit x.1 with
  | true=>exact kk more M5 (Ext.refl M5) (Sub.refl _) (fun _=>b) (fun s _ hs=>hs) (fun h=>h)
  | false=>
   refine ⟨q1,x.2,(h:Int),(g:Int),rfl,hq1,ht,fun M6 e6=>?_⟩
   simp! only []
   cases b2:x.2.all (CT.carried (h:Int) (g:Int)) with
   | false=>
    refine kk more M6 e6 (Sub.refl _) (fun z=>?_) (fun s _ hs=>hs) (fun h=>h)
    have z:x.2.all (CT.carried (h:Int) (g:Int)) = true:=z
    rw [b2] at z; cases z
   | true=>
    simp! only [List.set]
    refine ⟨⟨by omega,by omega,by decide⟩,?_⟩
    rw [nB,fZ]
    have tb:(more ||| 2 ^ x.1).testBit x.1 = true:=by rw [Nat.testBit_or,Nat.testBit_two_pow_self,Bool.or_true]
    refine kk (more ||| 2 ^ x.1) M6 e6 (Sub.or_l _ _) (fun _=>tb) (fun s hs hm=>hm.or fun f hf=>?_) (fun hm=>Nat.or_lt_two_pow hm (Nat.pow_lt_pow_right (by decide) hx))
    rw [Nat.testBit_two_pow] at hf
    have:x.1 = f:=of_decide_eq_true hf
    subst this
    exact hs b2
 have loop:∀ (E:EndsD) (h:Nat) (xs:List D) (rrs:List Row) (more:Nat) (v5 v6:Option D) (M5:MH),aL M xs rrs->(∀ x ∈ rrs,x ∈ rows)->Ext M M5->more < 2 ^ m ->
   (∀ more' v5 v6 M6,Ext M M6->Sub more more'->(∀ x ∈ rrs,a9 h g x = true->more'.testBit x.1 = true)->(∀ s,(∀ x ∈ rrs,a9 h g x = true->s.testBit x.1 = true)->Sub more s->Sub more' s)->more' < 2 ^ m->E.nx [some (.ref p),some (.int (told:Int)),some (.int (g:Int)),some (.int (h:Int)),some (.int (more':Int)),v5,v6] M6) ->
   az (fun M'=>M' p = some (.lst rds)) (.tp [5,6]) (wSs cn gE) E xs [some (.ref p),some (.int (told:Int)),some (.int (g:Int)),some (.int (h:Int)),some (.int (more:Int)),v5,v6] M5:=by
  intro E h xs rrs more v5 v6 M5 hx
  induction hx generalizing more v5 v6 M5 with
  | nil=>
   intro _ e5 hm kk
   rw [az]
   exact kk more v5 v6 M5 e5 (Sub.refl _) (fun x hx=>by cases hx) (fun s _ hs=>hs) hm
  | @cons d x xs rrs hd _ ih=>
   intro hin e5 hm kk
   obtain ⟨q1,rfl,hq1⟩:=hd
   have hx:=hin x (.head _)
   rw [az]
   refine ⟨rfl,?_⟩
   refine body _ h more x q1 M5 (ok.fit x hx).1 (hok x hx) (e5 _ _ hq1) ?_
   intro more' M6 e6 s1 s2 s3 s4
   refine ⟨e5.trans e6 _ _ hp,ih more' _ _ M6 (fun x h=>hin x (.tail _ h)) (e5.trans e6) (s4 hm) ?_⟩
   intro more2 v5 v6 M7 e7 t1 t2 t3 t4
   refine kk more2 v5 v6 M7 e7 (s1.trans t1) (fun y hy hq=>?_) (fun s hs hms=>t3 s (fun y hy=>hs y (.tail _ hy)) (s3 s (hs x (.head _)) hms)) t4
   rcases List.mem_cons.1 hy with rfl | hy
   ·exact t1 _ (s2 hq)
   ·exact t2 y hy hq
 unfold jw
 simp! only [List.set]
 unfold nH
 simp! only [List.set]
 unfold nG
 show kG _ _ _ _ _
 refine ⟨fun k σ M'=>∃ (hv:Int) (more:Nat) (v5 v6:Option D),(((2 ^ m:Nat):Int) - hv).toNat = k/\σ = [some (.ref p),some (.int (told:Int)),some (.int (g:Int)),some (.int hv),some (.int (more:Int)),v5,v6] /\
  Ext M M'/\Sub told more/\(∀ s,vg rows told g s->Sub more s)/\more < 2 ^ m/\(hv = -1 \/ ∃ h:Nat,hv = (h:Int)/\Sub h more/\∀ x ∈ rows,a9 h g x = true->more.testBit x.1 = true),?_,?_⟩
 ·exact ⟨_,-1,told,none,none,rfl,rfl,Ext.refl M,Sub.refl _,fun s hs=>hs.1,ht,.inl rfl⟩
 rintro k σ M' ⟨hv,more,v5,v6,rfl,rfl,e1,h1,h2,h3,h4⟩
 have test:∀ K:Bool->MH->Prop,K (!((more:Int) == hv)) M'->wT cn (.cmp .NotEq (.var 4) (.var 3)) [some (.ref p),some (.int (told:Int)),some (.int (g:Int)),some (.int hv),some (.int (more:Int)),v5,v6] M' K:=by
  intro K hK
  simp! only [aj,ak,au,al,ai,av,ah,am,Nat.zero_le,and_self,true_and,and_true,List.set]
  exact hK
 refine test _ ?_
 by_cases he:(more:Int) = hv
 ·rw [he,beq_self_eq_true,Bool.not_true,aM]
  dsimp only
  unfold nD
  simp! only [List.set]
  rcases h4 with z | ⟨h,hh,hs,hc⟩
  ·omega
  ·have:h = more:=by omega
   subst this
   rw [hh]
   exact q h M' ⟨⟨h1,hc⟩,h2⟩ h3 e1
 ·rw [beq_false_of_ne he,Bool.not_false,aU]
  refine ⟨fun σ' M''=>∃ k',k' < (((2 ^ m:Nat):Int) - hv).toNat/\_,fun σ' M'' h=>h,?_⟩
  unfold nF
  simp! only [List.set]
  unfold nE
  simp! only [List.set,e1 _ _ hp]
  have hlt:hv < (more:Int):=by
   rcases h4 with z | ⟨h,hh,hs,hc⟩
   ·omega
   ·have:=hs.le
    omega
  have h3':(more:Int) < ((2 ^ m:Nat):Int):=Int.ofNat_lt.2 h3
  refine loop _ more rds rows more v5 v6 M' hR (fun x h=>h) e1 h3 ?_
  intro more' w5 w6 M6 e6 t1 t2 t3 t4
  refine ⟨_,?_,(more:Int),more',w5,w6,rfl,rfl,e6,h1.trans t1,fun s hs=>t3 s (fun x hx hq=>hs.2 x hx (ke (h2 s hs) hq)) (h2 s hs),t4,.inr ⟨more,rfl,t1,t2⟩⟩
  omega
end
end SH
namespace SH
open PySem L2 DD
def kn:Ss:=.cons (.ret (.and (.fn 0 (.cons (.var 0) .nil)) (.cmp .Eq (.var 0) (.var 1)))) .nil
def cJ:Ss:=.cons (.ret (.bin .Add (.var 4) (.fn 0 (.cons (.var 0) (.cons (.var 1) (.cons (.var 2) (.cons (.var 3) .nil))))))) .nil
def cK:Ss:=.cons (.expr (.mt .append (.var 4) (.cons (.tup (.cons (.bin .Add (.bin .Mult (.int 2) (.var 5)) (.int 1)) (.cons (.lst (.cons (.tup (.cons (.str "lack") (.cons (.bin .Mult (.int 2) (.var 5)) .nil))) .nil)) .nil))) .nil))) .nil
def cM:Ss:=.cons (.expr (.mt .append (.var 4) (.cons (.tup (.cons (.bin .Mult (.int 2) (.var 5)) (.cons (.lst (.cons (.tup (.cons (.str "lack") (.cons (.bin .Add (.bin .Mult (.int 2) (.var 5)) (.int 1)) .nil))) .nil)) .nil))) .nil))) cK
def jN:Ss:=.cons (.for (.nm 5) (.rg1 (.cons (.bin .Mod (.bin .FloorDiv (.fn 1 (.cons (.var 0) (.cons (.int 1) .nil))) (.int 2)) (.bin .Add (.bin .FloorDiv (.var 1) (.int 2)) (.int 1))) .nil)) cM) cJ
def dh:Ss:=.cons (.set 4 (.lst .nil)) jN
def ko:SpD:=fun ds M Q=>∃(a:Addr) (ns:List Int) (m from_ most:Nat),ds=[.ref a,.int (m:Int),.int (from_:Int),.int (most:Int)]/\M a=some (.rol (ns.map .int))/\(0<m/\m<64)/\most<=300 /\
 ∀p rds rows M',M' p=some (.lst rds)->aL M' rds rows->RowsOk m rows->rows.length<=most+m->Ext M M'->Q (.ref p) M'
def zA:D->Bool
 |.non=>true
 |.int _=>true
 |.str _=>true
 |_=>false
def Iq:SpD:=fun ds M Q=>∃d:D,ds=[d]/\zA d=true/\Q (.bl true) M
theorem zB(ns:List Nat):aW (nats ns)=true:=by rw[kU];exact qm _
theorem depN(ns:List Nat):bQ (nats ns)<=30:=by rw[kU,tT];decide
theorem eqN(ns:List Nat):eqDs (nats ns) (nats ns)=true:=qf _ (zB ns)
section
variable {cn : Cn} {ds : List D} {M : MH} {Q : DK} {c : CA} {S Z : Addr}
theorem vp(h:Iq ds M Q):wSs cn bc (fin Q) (ag ["", ""] ds) M:=by
 obtain⟨d,rfl,hd,q⟩:=h;show wSs cn bc (fin Q) [some d,none] M;cases d with
 |int i=>
  exact Ii ⟨i,rfl,q⟩
 |non=>
  unfold bc;simp! only[tyD,tysD];refine⟨by decide,?_⟩;show Bif false _ _;unfold gB;simp! only[tyD];exact⟨trivial,q⟩
 |str z=>
  unfold bc;simp! only[tyD,tysD];refine⟨by decide,?_⟩;show Bif false _ _;unfold gB;simp! only[tyD];refine⟨trivial,by decide,?_⟩;show Bif true _ _;exact q
 |_=>cases hd
theorem yM(f0:cn.F.getD 0 (fun _ _ _=>False)=mI)(f1:cn.F.getD 1 (fun _ _ _=>False)=c7)(h:ko ds M Q):wSs cn dh (fin Q) (ag ["", "", "", "", "", ""] ds) M:=by
 obtain⟨a,ns,m,from_,most,rfl,hM,hm,hmost,q⟩:=h;show wSs cn dh (fin Q) [some (.ref a),some (.int (m:Int)),some (.int (from_:Int)),some (.int (most:Int)),none,none] M;have hsz:(2000:Nat)<sizeLine:=by decide
 unfold dh;simp! only[List.set];intro R hR;have e2:Ext M (updM M R (.lst [])):=Ext.new hR;have r2:updM M R (MO.lst []) R=some (.lst []):=ab;generalize updM M R (MO.lst [])=M2 at *;have ha2:=e2 _ _ hM;have hRa:a≠R:=bK hM hR;have one:∀(E:EndsD) (S:Ss) (x y:Nat) (M5:MH) (n:Nat) (σ:DS),x<m->y<m->n<1000->RowsSt m R M2 M5 n->(∀M6,RowsSt m R M2 M6 (n+1)->wSs cn S E σ M6) ->
   ∀q1,M5 q1=none->∃xs,updM M5 q1 (MO.lst [.tup [.str "lack",.int (y:Int)]]) R=some (.lst xs)/\xs.length<sizeLine/\wSs cn S E σ (updM (updM M5 q1 (.lst [.tup [.str "lack",.int (y:Int)]])) R (.lst (xs++[.tup [.int (x:Int),.ref q1]]))):=by
  intro E S x y M5 n σ hx hy hn ⟨hb,rds,rows,h1,h2,h3,h4⟩ kk q1 hq1;have hqR:q1≠R:=(bK h1 hq1).symm;have hrl:rds.length=rows.length:=kB h2;refine⟨rds,Ext.new hq1 _ _ h1,by omega,kk _ ⟨?_,rds++[.tup [.int (x:Int),.ref q1]],rows++[(x,[.lck (y:Int)])],ab,?_,h3.add hx (by show 1<=6;decide) (fun t ht=>?_),by rw[List.length_append];simpa using h4⟩⟩
  ·exact(hb.trans (Ext.new hq1).but).trans (ExtBut.upd _ _ _)
  ·rw[eJ]
   refine bd (aL.ext (bu (Ext.new hq1)) h2) (.cons ⟨q1,rfl,?_⟩ .nil);rw[qr hqR];exact ab
  ·have:t=.lck (y:Int):=by simpa using ht
   subst this;exact⟨by omega,by omega⟩
 have body:∀(E:EndsD) (k:Nat) (M5:MH) (n:Nat),2*k+1<m->n<900->RowsSt m R M2 M5 n->(∀M6,RowsSt m R M2 M6 (n+2)->E.nx [some (.ref a),some (.int (m:Int)),some (.int (from_:Int)),some (.int (most:Int)),some (.ref R),some (.int (k:Int))] M6) ->
   wSs cn cM E [some (.ref a),some (.int (m:Int)),some (.int (from_:Int)),some (.int (most:Int)),some (.ref R),some (.int (k:Int))] M5:=by
  intro E k M5 n hk hn S5 kk;have ek:(2:Int)*(k:Int)=((2*k:Nat):Int):=by omega
  have ek1:((2*k:Nat):Int)+1=((2*k+1:Nat):Int):=by omega
  have cm:CMul 2 (k:Int):=.inl ⟨by decide,by decide⟩;have nxt:∀M6,RowsSt m R M2 M6 (n+1)->wSs cn cK E [some (.ref a),some (.int (m:Int)),some (.int (from_:Int)),some (.int (most:Int)),some (.ref R),some (.int (k:Int))] M6:=by
   intro M6 S6;unfold cK;simp! only[List.set,ek,ek1];obtain⟨rds6,rows6,h16,-⟩:=S6.ex;refine⟨by rw[h16];rfl,cm,cm,fun q2 hq2=>?_⟩;obtain⟨xs,g1,g2,g3⟩:=one E .nil (2*k+1) (2*k) M6 (n+1) [some (.ref a),some (.int (m:Int)),some (.int (from_:Int)),some (.int (most:Int)),some (.ref R),some (.int (k:Int))] (by omega) (by omega) (by omega) S6 (fun M7 S7=>kk M7 S7) q2 hq2;simp only[g1];exact⟨g2,g3⟩
  unfold cM;simp! only[List.set,ek,ek1];obtain⟨rds,rows,h1,-⟩:=S5.ex;refine⟨by rw[h1];rfl,cm,cm,fun q1 hq1=>?_⟩;obtain⟨xs,g1,g2,g3⟩:=one E cK (2*k) (2*k+1) M5 n [some (.ref a),some (.int (m:Int)),some (.int (from_:Int)),some (.int (most:Int)),some (.ref R),some (.int (k:Int))] (by omega) (by omega) (by omega) S5 nxt q1 hq1;simp only[g1];exact⟨g2,g3⟩
 have last:∀(v5:Option D) (M5:MH) (n:Nat),n<=m->RowsSt m R M2 M5 n->wSs cn cJ (fin Q) [some (.ref a),some (.int (m:Int)),some (.int (from_:Int)),some (.int (most:Int)),some (.ref R),v5] M5:=by
  intro v5 M5 n hn ⟨hb,rds,rows,h1,h2,h3,h4⟩;unfold cJ;simp! only[List.set,f0];refine⟨a,ns,m,from_,most,rfl,hb _ _ hRa ha2,hm,by omega,fun p rds' rows' M6 g6 R6 ok6 hl6 e6=>?_⟩;have l1:rds.length=rows.length:=kB h2;have l2:rds'.length=rows'.length:=kB R6;simp! only[e6 _ _ h1,g6];refine⟨by omega,fun p3 hp3=>?_⟩;refine q p3 _ (rows++rows') _ ab (bd (aL.ext ((cR R M5).trans (e6.then hp3)) h2) (aL.ext (Ext.new hp3) R6)) ⟨ok6.most,?_,fun x hx=>?_⟩ (by rw[List.length_append];omega) ?_
  ·rw[List.length_append];omega
  ·rcases List.mem_append.1 hx with hx | hx
   ·exact h3 x hx
   ·exact ok6.fit x hx
  ·intro b o hbo
   exact Ext.new hp3 _ _ (e6 _ _ (hb b o (bK hbo hR) (e2 b o hbo)))
 unfold jN;simp! only[List.set,f1];refine⟨a,ns,1,rfl,ha2,⟨by decide,by decide⟩,⟨by decide,by decide⟩,by omega,?_⟩;obtain⟨w,ew,hw⟩:∃w:Nat,cellAt ns 1 / 2%((m:Int) / 2+1)=(w:Int)/\w<=m / 2:=by
  have b:=modB (y:=cellAt ns 1 / 2) (m:=(m:Int) / 2+1) (by omega);refine⟨(cellAt ns 1 / 2%((m:Int) / 2+1)).toNat,?_,?_⟩<;>omega
 rw[ew];refine⟨⟨by omega,by omega⟩,?_⟩;rw[eM];have key:∀(xs:List Nat) (v5:Option D) (M5:MH) (n:Nat),(∀k∈xs,2*k+1<m)->n+2*xs.length<=m->RowsSt m R M2 M5 n ->
   az (fun _=>True) (.nm 5) (wSs cn cM) { nx:=wSs cn cJ (fin Q),rt:=Q } (nats xs) [some (.ref a),some (.int (m:Int)),some (.int (from_:Int)),some (.int (most:Int)),some (.ref R),v5] M5:=by
  intro xs;induction xs with
  |nil=>
   intro v5 M5 n _ hn S5;rw[show nats []=[] from rfl,az];exact last v5 M5 n (by simpa using hn) S5
  |cons k xs ih=>
   intro v5 M5 n hk hn S5;rw[List.length_cons] at hn;rw[show nats (k::xs)=.int (k:Int)::nats xs from rfl,az];refine body _ k M5 n (hk k (.head _)) (by omega) S5 ?_;intro M6 S6;exact⟨trivial,ih _ M6 (n+2) (fun k h=>hk k (.tail _ h)) (by omega) S6⟩
 refine key (List.range w) none M2 0 (fun k hk=>?_) (by rw[List.length_range];omega) ⟨ExtBut.refl _ _,[],[],r2,.nil,fun x hx=>(by cases hx),Nat.le_refl _⟩
 have:=List.mem_range.1 hk
 omega
end
end SH
namespace SH
open PySem L2 DD
def jx:Ss:=.cons (.ret (.tup (.cons (.var 2) (.cons (.var 3) .nil)))) .nil
def mP:Ss:=.cons (.set 3 (.bin .BitAnd (.var 3) (.fn 0 (.cons (.var 0) (.cons (.var 1) (.cons (.var 2) .nil)))))) .nil
def mQ:Ss:=.cons (.set 2 (.bin .BitOr (.var 2) (.fn 0 (.cons (.var 0) (.cons (.var 1) (.cons (.var 3) .nil)))))) mP
def jy:Ss:=.cons (.set 4 (.tup (.cons (.var 2) (.cons (.var 3) .nil)))) mQ
def mR:Ss:=.cons (.while (.and (.cmp .NotEq (.var 4) (.tup (.cons (.var 2) (.cons (.var 3) .nil)))) (.cmp .Eq (.bin .BitAnd (.var 2) (.var 3)) (.var 2))) jy) jx
def iz:Ss:=.cons (.set 4 .non) mR
def jz:Ss:=.cons (.ret (.comp 1 (.var 2) (.nm 2) (.rg1 (.cons (.var 1) .nil)) (.yes (.cmp .Eq (.bin .BitAnd (.bin .RShift (.var 0) (.var 2)) (.int 1)) (.int 1))))) .nil
def pw:Ss:=.cons (.ret (.tup (.cons (.var 2) (.cons (.var 4) .nil)))) .nil
def pz:Ss:=.cons (.set 3 (.fn 0 (.cons (.var 0) (.cons (.var 1) (.cons (.var 4) .nil))))) .nil
def pA:Ss:=.cons (.set 4 (.fn 0 (.cons (.var 0) (.cons (.var 1) (.cons (.var 2) .nil))))) pz
def pB:Ss:=.cons (.set 2 (.var 3)) pA
def pC:Ss:=.cons (.while (.cmp .NotEq (.var 2) (.var 3)) pB) pw
def pE:Ss:=.cons (.set 4 (.int 0)) pC
def pF:Ss:=.cons (.set 3 (.int 0)) pE
def kr:Ss:=.cons (.set 2 (.neg (.int 1))) pF
def nI:SpD:=fun ds M Q=>∃(n m:Nat),ds=[.int (n:Int),.int (m:Int)]/\n<2 ^ m/\m<64/\∀p M',M p=none->Ext M M'->M' p=some (.lst (nats (memb n)))->Q (.ref p) M'
def ig:SpD:=fun ds M Q=>∃(p:Addr) (m:Nat) (rds:List D) (rows:List Row) (told s U:Nat) (y:Nat×Nat),ds=[.ref p,.int (told:Int),.int (y.1:Int),.int (y.2:Int)]/\M p=some (.lst rds)/\aL M rds rows/\RowsOk m rows/\told<2 ^ m/\IsRoot rows told s U/\U<2 ^ m/\Within s U y/\Sub y.1 y.2 /\
 ∀w M',Nar (gamG rows s (ac U s)) y w->Within s U w->Ext M M'->Q (aD w) M'
def mS:SpD:=fun ds M Q=>∃(p:Addr) (m:Nat) (rds:List D) (rows:List Row) (told:Nat),ds=[.ref p,.int (told:Int)]/\M p=some (.lst rds)/\aL M rds rows/\RowsOk m rows/\told<2 ^ m /\
 ∀s U M',IsRoot rows told s U->U<2 ^ m->Ext M M'->Q (aD (s,U)) M'
theorem oP{n m:Nat}(h:n<2 ^ m):(List.range m).filter (fun f=>n.testBit f)=memb n:=by
 have hb:=Ao h;unfold memb;obtain⟨k,rfl⟩:∃k,m=dP (n:Int)+k:=⟨m-dP (n:Int),by omega⟩;rw[List.range_add,List.filter_append];have:((List.range k).map (dP (n:Int) + ·)).filter (fun f=>n.testBit f)=[]:=by
  rw[List.filter_eq_nil_iff];intro f hf q;obtain⟨j,_,rfl⟩:=List.mem_map.1 hf
  have:=(br n _).2 q
  unfold memb at this
  have:=List.mem_range.1 (List.mem_filter.1 this).1
  omega
 rw[this,List.append_nil]
theorem GK{a b m:Nat}(h:a<2 ^ m):(memb a).filter (fun f=>!b.testBit f)=memb (ac a b):=by
 rw[←oP h,List.filter_filter,←oP (Nat.lt_of_le_of_lt (cw a b) h)];refine List.filter_congr fun f _=>?_
 rw[aN,Bool.and_comm]
theorem vq{a b:Nat}(h:Sub b a):(a:Int)-(b:Int)=((ac a b:Nat):Int):=by
 have:=dR a b
 have e:a&&&b=b:=by rw[Nat.and_comm];exact bP.2 h
 omega
theorem AS{S U f:Nat}{w:Nat×Nat}(hw:Within S U w)(sw:Sub w.1 w.2)(h1:w.1.testBit f=false)(h2:w.2.testBit f=true):
  (Within S U (w.1|||2 ^ f,w.2)/\Sub (w.1|||2 ^ f) w.2)/\Within S U (w.1,ac w.2 (2 ^ f))/\Sub w.1 (ac w.2 (2 ^ f)):=by
 have bf:∀g,(2 ^ f).testBit g=true->g=f:=fun g hg=>by
  rw[Nat.testBit_two_pow] at hg;exact(of_decide_eq_true hg).symm
 have s1:Sub (w.1|||2 ^ f) w.2:=sw.or fun g hg=>by rw[bf g hg];exact h2
 have s2:Sub (ac w.2 (2 ^ f)) w.2:=fun g hg=>by rw[aN,Bool.and_eq_true] at hg;exact hg.1
 have s3:Sub w.1 (ac w.2 (2 ^ f)):=fun g hg=>by
  rw[aN,sw g hg];cases e:(2 ^ f).testBit g with
  |false=>rfl
  |true=>rw[bf g e,h1] at hg;cases hg
 exact⟨⟨⟨⟨hw.1.1.trans (Sub.or_l _ _),s1.trans hw.2.2⟩,hw.2⟩,s1⟩,⟨hw.1,hw.1.1.trans s3,s2.trans hw.2.2⟩,s3⟩
theorem qx:∀t:Tr,aP t.told=true/\depD t.told<=t.deep+1
 |.broken f=>⟨rfl,Nat.le_refl _⟩
 |.world f=>⟨rfl,Nat.le_refl _⟩
 |.split f a b=>by
  obtain⟨a1,a2⟩:=qx a;obtain⟨b1,b2⟩:=qx b;refine⟨?_,?_⟩
  ·show(true&&(true&&(aP a.told&&(aP b.told&&true))))=true
   rw[a1,b1];rfl
  ·show max 0 (max 0 (max (depD a.told) (max (depD b.told) 0)))+1<=max a.deep b.deep+1+1
   omega
section
variable {cn : Cn} {ds : List D} {M : MH} {Q : DK} {c : CA} {S V : Addr}
theorem AT(h:nI ds M Q):wSs cn jz (fin Q) (ag ["", ""] ds) M:=by
 obtain⟨n,m,rfl,hn,hm,q⟩:=h;show wSs cn jz (fin Q) [some (.int (n:Int)),some (.int (m:Int))] M;unfold jz;simp_all! only[List.set,List.cons_append,List.nil_append,List.replicate];refine⟨⟨by omega,by omega⟩,?_⟩;rw[eM];refine c5 (p:=fun d=>match d with | .int w=>hasB (n:Int) w | _=>false) (ok:=fun σ=>∃v,σ=[some (.int (n:Int)),some (.int (m:Int)),v]) [] _ ⟨none,rfl⟩ ?_ ?_
 ·intro d hd σ acc rest ⟨v,hv⟩ k
  subst hv;obtain⟨f,hf,rfl⟩:=List.mem_map.1 hd;have k1:=k _ ⟨some (.int (f:Int)),rfl⟩;dsimp only at k1;refine⟨(by omega:(0:Int)<=(f:Int)),⟨rfl,rfl,(by decide:(0:Nat)<=30)⟩,?_⟩;show Bif (Builtin.bitAnd ((n:Int) / 2 ^ (f:Int).toNat) 1==1) _ _;rw[PyProof.Rows.bitAnd_m1];show Bif (hasB (n:Int) (f:Int)) _ _;cases hb:hasB (n:Int) (f:Int) with
  |true=>rw[hb] at k1;exact⟨trivial,k1⟩
  |false=>rw[hb] at k1;exact⟨trivial,by simpa using k1⟩
 intro p hp;rw[yx (fun f=>n.testBit f) _ (fun f=>fY n f),oP hn];exact q p _ hp (Ext.new hp) ab
theorem yN (f0:cn.F.getD 0 (fun _ _ _=>False) = gF) (h:ig ds M Q):wSs cn iz (fin Q) (ag ["", "", "", "", ""] ds) M:=by
 obtain ⟨p,m,rds,rows,told,s,U,y0,rfl,hp,hR,ok,ht,R,hU,W0,s0,q⟩:=h
 show wSs cn iz (fin Q) [some (.ref p),some (.int (told:Int)),some (.int (y0.1:Int)),some (.int (y0.2:Int)),none] M
 have G:=Im R
 have lt:∀ {a:Nat},Sub a U->a < 2 ^ m:=fun h=>Nat.lt_of_le_of_lt h.le hU
 have body:∀ (E:EndsD) (y:Nat × Nat) (b:D) (M1:MH),Within s U y->Ext M M1->(∀ M2,Ext M M2->E.nx [some (.ref p),some (.int (told:Int)),some (.int ((ax (gamG rows s (ac U s)) y).1:Int)),some (.int ((ax (gamG rows s (ac U s)) y).2:Int)),some (aD y)] M2) ->
   wSs cn jy E [some (.ref p),some (.int (told:Int)),some (.int (y.1:Int)),some (.int (y.2:Int)),some b] M1:=by
  intro E y b M1 W e1 k
  obtain ⟨⟨h1,h2⟩,h3,h4⟩:=W
  have W2:=km G ⟨⟨h1,h2⟩,h3,h4⟩
  unfold jy
  simp! only [List.set]
  unfold mQ
  simp! only [List.set,f0]
  refine ⟨p,m,rds,rows,told,y.2,rfl,e1 _ _ hp,aL.ext e1 hR,ok,ht,fun n1 M2 L1 _ e2=>?_⟩
  have:=(G _ h3 h4).1.uniq L1
  subst this
  simp! only [fZ]
  unfold mP
  simp! only [List.set,f0]
  have e12:=e1.trans e2
  refine ⟨p,m,rds,rows,told,_,rfl,e12 _ _ hp,aL.ext e12 hR,ok,ht,fun n2 M3 L2 _ e3=>?_⟩
  have:=(G _ W2.1.1 W2.1.2).1.uniq L2
  subst this
  simp! only [jS]
  exact k M3 (e12.trans e3)
 have last:∀ (y:Nat × Nat) (b:D) (M1:MH),Ext M M1->Nar (gamG rows s (ac U s)) y0 y->Within s U y->wSs cn jx (fin Q) [some (.ref p),some (.int (told:Int)),some (.int (y.1:Int)),some (.int (y.2:Int)),some b] M1:=by
  intro y b M1 e1 N W
  unfold jx
  simp! only [List.set]
  exact q y M1 N W e1
 unfold iz
 simp! only [List.set]
 unfold mR
 show kG _ _ _ _ _
 refine ⟨fun k σ M'=>∃ (y:Nat × Nat) (b:D),σ = [some (.ref p),some (.int (told:Int)),some (.int (y.1:Int)),some (.int (y.2:Int)),some b]/\Ext M M'/\Within s U y /\
  ((b = .non/\y = y0/\k = farP m (y0.2,y0.1) + 1) \/ ∃ z,b = aD z/\y = ax (gamG rows s (ac U s)) z/\Within s U z/\k = farP m (z.2,z.1)/\∀ w,Nar (gamG rows s (ac U s)) z w->Nar (gamG rows s (ac U s)) y0 w),?_,?_⟩
 ·exact ⟨_,y0,.non,rfl,Ext.refl M,W0,.inl ⟨rfl,rfl,rfl⟩⟩
 rintro k σ M' ⟨y,b,rfl,e1,W,h⟩
 have test:∀ K:Bool->MH->Prop,aP b = true->depD b<=30->(b = .non \/ ∃ z,b = aD z)->K (!(eqD b (aD y)) && decide (y.1 &&& y.2 = y.1)) M' ->
   wT cn (.and (.cmp .NotEq (.var 4) (.tup (.cons (.var 2) (.cons (.var 3) .nil)))) (.cmp .Eq (.bin .BitAnd (.var 2) (.var 3)) (.var 2))) [some (.ref p),some (.int (told:Int)),some (.int (y.1:Int)),some (.int (y.2:Int)),some b] M' K:=by
  intro K hb1 hb2 hb hK
  have two2:∀ x:Bool,K (!x && decide (y.1 &&& y.2 = y.1)) M'->Bif (!x) (K (((y.1 &&& y.2:Nat):Int) == (y.1:Int)) M') (K false M'):=by
   intro x hK
   cases x with
   | true=>exact hK
   | false=>
    rw [Bool.not_false,Bool.true_and] at hK
    by_cases e:y.1 &&& y.2 = y.1
    ·rw [e,beq_self_eq_true]; rw [decide_eq_true e] at hK; exact hK
    ·rw [beq_false_of_ne (by omega)]; rw [decide_eq_false e] at hK; exact hK
  rcases hb with rfl | ⟨z,rfl⟩
  ·simp! only [aj,ak,au,al,ai,av,ah,am,Nat.zero_le,and_self,true_and,and_true,List.set,jS]
   exact ⟨⟨rfl,rfl,hb2⟩,two2 _ hK⟩
  ·simp! only [aj,ak,au,al,ai,av,ah,am,Nat.zero_le,and_self,true_and,and_true,aD,List.set,jS]
   exact ⟨⟨rfl,rfl,hb2⟩,two2 _ hK⟩
 rcases h with ⟨rfl,rfl,rfl⟩ | ⟨z,rfl,rfl,Wz,rfl,hw⟩
 ·refine test _ rfl (by decide) (.inl rfl) ?_
  rw [decide_eq_true (bP.2 s0)]
  show Bif true _ _
  rw [aU]
  refine ⟨fun σ' M''=>∃ k',k' < farP m (y.2,y.1) + 1/\_,fun σ' M'' h=>h,?_⟩
  refine body _ y .non M' W e1 fun M2 e2=>?_
  exact ⟨_,Nat.lt_succ_self _,ax (gamG rows s (ac U s)) y,_,rfl,e2,km G W,.inr ⟨y,rfl,rfl,W,rfl,fun w h=>h⟩⟩
 ·refine test _ rfl (Nat.le_add_left 1 29) (.inr ⟨z,rfl⟩) ?_
  have ez:eqD (aD z) (aD (ax (gamG rows s (ac U s)) z)) = decide (z = ax (gamG rows s (ac U s)) z):=by
   generalize ax (gamG rows s (ac U s)) z = x
   show ((z.1:Int) == (x.1:Int) && ((z.2:Int) == (x.2:Int) && true)) = _
   by_cases e:z = x
   ·subst e; simp
   ·rw [decide_eq_false e]
    by_cases e1:z.1 = x.1
    ·have e2:z.2 ≠ x.2:=fun h=>e (Prod.ext e1 h)
     rw [beq_false_of_ne (a:=(z.2:Int)) (by omega),Bool.false_and,Bool.and_false]
    ·rw [beq_false_of_ne (a:=(z.1:Int)) (by omega),Bool.false_and]
  rw [ez]
  have W2:=km G Wz
  by_cases hgo:(ax (gamG rows s (ac U s)) z).1 &&& (ax (gamG rows s (ac U s)) z).2 = (ax (gamG rows s (ac U s)) z).1/\ax (gamG rows s (ac U s)) z ≠ z
  ·rw [decide_eq_true hgo.1,decide_eq_false (fun h=>hgo.2 h.symm),Bool.not_false,Bool.and_true,aU]
   have far:=yv hgo.2 (lt Wz.2.2) (lt W2.1.2)
   refine ⟨fun σ' M''=>∃ k',k' < farP m (z.2,z.1)/\_,fun σ' M'' h=>h,?_⟩
   refine body _ _ _ M' W e1 fun M2 e2=>?_
   exact ⟨_,far,_,_,rfl,e2,km G W,.inr ⟨_,rfl,rfl,W2,rfl,fun w h=>hw w (.go hgo.1 hgo.2 h)⟩⟩
  ·have:(!decide (z = ax (gamG rows s (ac U s)) z) && decide ((ax (gamG rows s (ac U s)) z).1 &&& (ax (gamG rows s (ac U s)) z).2 = (ax (gamG rows s (ac U s)) z).1)) = false:=by
    cases e:(!decide (z = ax (gamG rows s (ac U s)) z) && decide ((ax (gamG rows s (ac U s)) z).1 &&& (ax (gamG rows s (ac U s)) z).2 = (ax (gamG rows s (ac U s)) z).1)) with
    | false=>rfl
    | true=>
     rw [Bool.and_eq_true,Bool.not_eq_true',decide_eq_false_iff_not,decide_eq_true_eq] at e
     exact absurd ⟨e.2,fun h=>e.1 h.symm⟩ hgo
   rw [this,aM]
   dsimp only
   exact last _ _ M' e1 (hw _ (.stop hgo)) W2
theorem CJ (f0:cn.F.getD 0 (fun _ _ _=>False) = gF) (h:mS ds M Q):wSs cn kr (fin Q) (ag ["", "", "", "", ""] ds) M:=by
 obtain ⟨p,m,rds,rows,told,rfl,hp,hR,ok,ht,q⟩:=h
 show wSs cn kr (fin Q) [some (.ref p),some (.int (told:Int)),none,none,none] M
 unfold kr
 simp! only [List.set]
 unfold pF
 simp! only [List.set]
 unfold pE
 simp! only [List.set]
 unfold pC
 show kG _ _ _ _ _
 refine ⟨fun k σ M'=>∃ (hv:Int) (more may:Nat),(((2 ^ m:Nat):Int) - hv).toNat = k/\σ = [some (.ref p),some (.int (told:Int)),some (.int hv),some (.int (more:Int)),some (.int (may:Int))]/\Ext M M'/\more < 2 ^ m/\may < 2 ^ m /\
  (∀ z o,aF rows told z o->Sub z o->aF rows told o z->Sub more z) /\
  ((hv = -1/\more = 0) \/ ∃ h:Nat,hv = (h:Int)/\aF rows told h may/\aF rows told may more/\Sub h may/\Sub h more/\∀ z o,aF rows told z o->Sub z o->aF rows told o z->Sub o may),?_,?_⟩
 ·exact ⟨_,-1,0,0,rfl,rfl,Ext.refl M,Nat.two_pow_pos m,Nat.two_pow_pos m,fun _ _ _ _ _=>Sub.zero _,.inl ⟨rfl,rfl⟩⟩
 rintro k σ M' ⟨hv,more,may,rfl,rfl,e1,b1,b2,hz,h4⟩
 have test:∀ K:Bool->MH->Prop,K (!(hv == (more:Int))) M'->wT cn (.cmp .NotEq (.var 2) (.var 3)) [some (.ref p),some (.int (told:Int)),some (.int hv),some (.int (more:Int)),some (.int (may:Int))] M' K:=by
  intro K hK
  simp! only [aj,ak,au,al,ai,av,ah,am,Nat.zero_le,and_self,true_and,and_true,List.set]
  exact hK
 refine test _ ?_
 by_cases he:hv = (more:Int)
 ·rw [he,beq_self_eq_true,Bool.not_true,aM]
  dsimp only
  unfold pw
  simp! only [List.set]
  rcases h4 with ⟨z,_⟩ | ⟨h,hh,l1,l2,s1,s2,ho⟩
  ·omega
  ·have:h = more:=by omega
   subst this
   exact q h may M' ⟨l1,l2,s1,fun z o a b c=>⟨hz z o a b c,ho z o a b c⟩⟩ b2 e1
 ·rw [beq_false_of_ne he,Bool.not_false,aU]
  refine ⟨fun σ' M''=>∃ k',k' < (((2 ^ m:Nat):Int) - hv).toNat/\_,fun σ' M'' h=>h,?_⟩
  unfold pB
  simp! only [List.set]
  unfold pA
  simp! only [List.set,f0]
  refine ⟨p,m,rds,rows,told,more,rfl,e1 _ _ hp,aL.ext e1 hR,ok,ht,fun may' M2 L1 c1 e2=>?_⟩
  unfold pz
  simp! only [List.set,f0]
  have e12:=e1.trans e2
  refine ⟨p,m,rds,rows,told,may',rfl,e12 _ _ hp,aL.ext e12 hR,ok,ht,fun more' M3 L2 c2 e3=>?_⟩
  have hlt:hv < (more:Int):=by
   rcases h4 with ⟨z,_⟩ | ⟨h,hh,l1,l2,s1,s2,ho⟩
   ·omega
   ·have:=s2.le
    omega
  have sm:Sub more may'/\Sub more more':=by
   rcases h4 with ⟨_,rfl⟩ | ⟨h,hh,l1,l2,s1,s2,ho⟩
   ·exact ⟨Sub.zero _,Sub.zero _⟩
   ·have a:Sub more may:=aF.anti s1 l1 l2
    have b:Sub may' may:=aF.anti s2 l1 L1
    exact ⟨aF.anti a L1 l2,aF.anti b L2 l2⟩
  have ho':∀ z o,aF rows told z o->Sub z o->aF rows told o z->Sub o may':=fun z o a b c=>aF.anti (hz z o a b c) L1 a
  have h3':(more:Int) < ((2 ^ m:Nat):Int):=Int.ofNat_lt.2 b1
  refine ⟨_,?_,(more:Int),more',may',rfl,rfl,e12.trans e3,c2,c1,fun z o a b c=>aF.anti (ho' z o a b c) c L2,.inr ⟨more,rfl,L1,L2,sm.1,sm.2,ho'⟩⟩
  omega
end
end SH
namespace SH
open PySem L2 DD
def jA:Ss:=.cons (.ret (.bin .Add (.var 8) (.var 9))) .nil
def mT:Ss:=.cons (.ite (.or (.cmp .Is (.var 8) .non) (.cmp .Is (.var 9) .non)) (.cons (.ret .non) .nil) .nil) jA
def mU:Ss:=.cons (.set 9 (.fn 0 (.cons (.var 0) (.cons (.var 1) (.cons (.var 2) (.cons (.var 3) (.cons (.bin .Sub (.var 4) (.bin .LShift (.int 1) (.var 7))) (.cons (.ix (.var 5) (.int 3)) .nil)))))))) mT
def jB:Ss:=.cons (.set 8 (.fn 0 (.cons (.var 0) (.cons (.var 1) (.cons (.var 2) (.cons (.bin .BitOr (.var 3) (.bin .LShift (.int 1) (.var 7))) (.cons (.var 4) (.cons (.ix (.var 5) (.int 2)) .nil)))))))) mU
def mV:Ss:=.cons (.ite (.or (.not (.val (.bi .isinst (.cons (.var 5) (.cons (.ty "tuple") .nil))))) (.or (.cmp .NotEq (.bi .len (.cons (.var 5) .nil)) (.int 4)) (.cmp .NotEq (.sl (.var 5) .no (.yes (.int 2))) (.tup (.cons (.str "split") (.cons (.var 7) .nil)))))) (.cons (.ret .non) .nil) .nil) jB
def jC:Ss:=.cons (.set 7 (.ix (.fn 1 (.cons (.bin .Sub (.var 4) (.var 3)) (.cons (.var 2) .nil))) (.int 0))) mV
def c0:Ss:=.cons (.ite (.cmp .Eq (.var 3) (.var 4)) (.cons (.ret (.ix (.lst (.cons (.lst (.cons (.var 3) .nil)) (.cons .non .nil))) (.bj .int (.cons (.cmp .NotEq (.var 5) (.tup (.cons (.str "world") (.cons (.var 3) .nil)))) .nil)))) .nil) .nil) jC
def mX:Ss:=.cons (.ite (.cmp .NotEq (.var 6) (.lst .nil)) (.cons (.ret (.ix (.lst (.cons (.lst .nil) (.cons .non .nil))) (.bj .int (.cons (.cmp .NotEq (.var 5) (.tup (.cons (.str "broken") (.cons (.ix (.var 6) (.int 0)) .nil)))) .nil)))) .nil) .nil) c0
def mY:Ss:=.cons (.setC 6 1 (.var 10) (.nm 10) (.seq (.var 6)) (.yes (.cmp .Eq (.bin .BitAnd (.bin .RShift (.var 4) (.var 10)) (.int 1)) (.int 0)))) mX
def mZ:Ss:=.cons (.set 6 (.fn 1 (.cons (.var 3) (.cons (.var 2) .nil)))) mY
def iA:Ss:=.cons (.asg (.tp [3,4]) (.fn 2 (.cons (.var 0) (.cons (.var 1) (.cons (.var 3) (.cons (.var 4) .nil)))))) mZ
def j0(d:Nat):SpD:=fun ds M Q=>∃(p:Addr) (m:Nat) (rds:List D) (rows:List Row) (told s U:Nat) (y:Nat×Nat) (t:Tr),ds=[.ref p,.int (told:Int),.int (m:Int),.int (y.1:Int),.int (y.2:Int),t.told]/\M p=some (.lst rds)/\aL M rds rows/\RowsOk m rows/\told<2 ^ m/\IsRoot rows told s U/\U<2 ^ m/\Within s U y/\Sub y.1 y.2 /\
 Told (gamG rows s (ac U s)) y t/\t.deep<d/\d<=16/\m<60/\∀p M',M p=none->Ext M M'->M' p=some (.lst (nats t.worlds))->Q (.ref p) M'
section
variable {cn : Cn} {ds : List D} {M : MH} {Q : DK} {c : CA} {S V : Addr}
theorem yO{d:Nat}(f0:cn.F.getD 0 (fun _ _ _=>False)=j0 d)(f1:cn.F.getD 1 (fun _ _ _=>False)=nI)(f2:cn.F.getD 2 (fun _ _ _=>False)=ig)(h:j0 (d+1) ds M Q):wSs cn iA (fin Q) (ag ["", "", "", "", "", "", "", "", "", ""] ds) M:=by
 obtain⟨p,m,rds,rows,told,s,U,y,t,rfl,hp,hR,ok,ht,R,hU,W0,s0,T,hd,h16,hm,q⟩:=h;show wSs cn iA (fin Q) [some (.ref p),some (.int (told:Int)),some (.int (m:Int)),some (.int (y.1:Int)),some (.int (y.2:Int)),some t.told,none,none,none,none] M;have lt:∀{a:Nat},Sub a U->a<2 ^ m:=fun h=>Nat.lt_of_le_of_lt h.le hU
 have qN:∀ns:List Nat,eqDs (nats ns) []=decide (ns=[]):=fun ns=>by
  rw[kU,GI,List.length_map,Kw];exact decide_eq_decide.2 List.length_eq_zero_iff
 unfold iA;simp! only[List.set,f2];refine⟨p,m,rds,rows,told,s,U,y,rfl,hp,hR,ok,ht,R,hU,W0,s0,fun w M1 N1 W1 e1=>?_⟩;simp! only[aD,List.set];refine⟨rfl,?_⟩;unfold mZ;simp! only[List.set,f1];refine⟨w.1,m,rfl,lt W1.1.2,by omega,fun p1 M2 hp1 e2 g2=>?_⟩;unfold mY;simp_all! only[List.set,g2,List.cons_append,List.nil_append,List.replicate];refine c5 (p:=fun d=>match d with | .int f=>!hasB (w.2:Int) f | _=>false) (ok:=fun σ=>∃v,σ=[some (.ref p),some (.int (told:Int)),some (.int (m:Int)),some (.int (w.1:Int)),some (.int (w.2:Int)),some t.told,some (.ref p1),none,none,none,v]) [] _ ⟨none,rfl⟩ ?_ ?_
 ·intro d hd σ acc rest ⟨v,hv⟩ k
  subst hv;obtain⟨f,hf,rfl⟩:=List.mem_map.1 hd;have k1:=k _ ⟨some (.int (f:Int)),rfl⟩;dsimp only at k1;refine⟨(by omega:(0:Int)<=(f:Int)),⟨rfl,rfl,(by decide:(0:Nat)<=30)⟩,?_⟩;show Bif (Builtin.bitAnd ((w.2:Int) / 2 ^ (f:Int).toNat) 1==0) _ _;rw[PyProof.Rows.bitAnd_m1];show Bif (bitZ (w.2:Int) (f:Int)==0) _ _;rw[Ag];cases hb:hasB (w.2:Int) (f:Int) with
  |false=>rw[hb] at k1;exact⟨g2,k1⟩
  |true=>rw[hb] at k1;exact⟨g2,by simpa using k1⟩
 intro p2 hp2;rw[yx (fun f=>!w.2.testBit f) _ (fun f=>by show(!hasB (w.2:Int) (f:Int))=_;rw[fY]),GK (lt W1.1.2)];have e3:Ext M (updM M2 p2 (.lst (nats (memb (ac w.1 w.2))))):=(e1.trans e2).then hp2;have g3:updM M2 p2 (MO.lst (nats (memb (ac w.1 w.2)))) p2=some (.lst (nats (memb (ac w.1 w.2)))):=ab;generalize updM M2 p2 (MO.lst (nats (memb (ac w.1 w.2))))=M3 at *;clear g2 e1 e2 hp1 hp2;clear M1 M2;unfold mX;simp! only[dBj,rF,List.set];intro r1 hr1;have x1:=Ext.new (o:=MO.lst []) hr1;have k1:updM M3 r1 (MO.lst []) r1=some (.lst []):=ab;generalize updM M3 r1 (MO.lst [])=M4 at *;have g4:=x1 _ _ g3;have e4:=e3.trans x1;simp only[g4,k1,rdL,qN];refine⟨⟨zB _,rfl,depN _⟩,?_⟩;clear x1 k1 hr1 g3 e3;clear M3;cases T with
 |@broken _ w0 f r n e=>
  cases n.det N1;rw[e] at g4 ⊢;rw[decide_eq_false (by simp)];simp only[Bool.not_false,aU];intro r2 hr2;have x2:=Ext.new (o:=MO.lst []) hr2;have k2:updM M4 r2 (MO.lst []) r2=some (.lst []):=ab;generalize updM M4 r2 (MO.lst [])=M5 at *;intro r3 hr3;have x3:=Ext.new (o:=MO.lst [.ref r2,.non]) hr3;have k3:updM M5 r3 (MO.lst [.ref r2,.non]) r3=some (.lst [.ref r2,.non]):=ab;generalize updM M5 r3 (MO.lst [.ref r2,.non])=M6 at *;simp only[(x2.trans x3) _ _ g4,show nats (f::r)=.int (f:Int)::nats r from rfl,at0,Tr.told];refine⟨⟨rfl,rfl,Nat.le_add_left 1 29⟩,?_⟩;rw[iE _ rfl];simp only[Bool.not_true,Bool.false_eq_true,if_false,k3,ix00];exact q r2 M6 (e4.free hr2) (e4.trans (x2.trans x3)) (x3 _ _ k2)
 |@world _ w0 n e=>
  cases n.det N1;have z1:ac w.1 w.2=0:=cx.2 (bP.2 (by rw[e];exact Sub.refl _));rw[z1,decide_eq_true (oO.2 rfl)];simp only[Bool.not_true,aM];show wSs cn c0 _ _ _;unfold c0;simp_all! only[dBj,rF,List.set,←e,beq_self_eq_true];intro r2 hr2;have x2:=Ext.new (o:=MO.lst [.int (w.1:Int)]) hr2;have k2:updM M4 r2 (MO.lst [.int (w.1:Int)]) r2=some (.lst [.int (w.1:Int)]):=ab;generalize updM M4 r2 (MO.lst [.int (w.1:Int)])=M5 at *;intro r3 hr3;have x3:=Ext.new (o:=MO.lst [.ref r2,.non]) hr3;have k3:updM M5 r3 (MO.lst [.ref r2,.non]) r3=some (.lst [.ref r2,.non]):=ab;generalize updM M5 r3 (MO.lst [.ref r2,.non])=M6 at *;simp only[Tr.told];refine⟨⟨rfl,rfl,Nat.le_add_left 1 29⟩,?_⟩;rw[iE _ rfl];simp only[Bool.not_true,Bool.false_eq_true,if_false,k3,ix00];exact q r2 M6 (e4.free hr2) (e4.trans (x2.trans x3)) (x3 _ _ k2)
 |@split _ w0 f r t1 t2 n sw e T1 T2=>
  cases n.det N1;have hd:max t1.deep t2.deep+1<d+1:=hd;have z1:ac w.1 w.2=0:=cx.2 (bP.2 sw);have hf:(ac w.2 w.1).testBit f=true:=(br _ _).1 (by rw[e];exact .head _);rw[aN,Bool.and_eq_true,Bool.not_eq_true'] at hf;have ne:w.1≠w.2:=fun z=>by rw[z,hf.1] at hf;cases hf.2
  have hfm:f<m:=eB (lt W1.2.2) hf.1;obtain⟨⟨Wa,sa⟩,Wb,sb⟩:=AS W1 sw hf.2 hf.1;rw[z1,decide_eq_true (oO.2 rfl)];simp only[Bool.not_true,aM];show wSs cn c0 _ _ _;unfold c0;simp_all! only[dBj,rF,List.set];rw[beq_false_of_ne (by omega:(w.1:Int)≠(w.2:Int))];simp only[aM];show wSs cn jC _ _ _;unfold jC;simp! only[List.set,f1,vq sw];refine⟨ac w.2 w.1,m,rfl,Nat.lt_of_le_of_lt (cw _ _) (lt W1.2.2),by omega,fun p5 M5 hp5 e5 g5=>?_⟩;rw[e] at g5;simp only[g5,show nats (f::r)=.int (f:Int)::nats r from rfl,at0,optD];have e45:=e4.trans e5;unfold mV;simp_all! only[Tr.told,List.set,tyD];refine⟨by decide,?_⟩;show Bif (!true) _ _;rw[Bool.not_true,aM];refine⟨⟨rfl,rfl,Nat.le_add_left 1 29⟩,?_⟩;show Bif (!(eqD (.tup [.str "split",.int (f:Int)]) (.tup [.str "split",.int (f:Int)]))) _ _;rw[iE _ rfl,Bool.not_true,aM];show wSs cn jB _ _ _;unfold jB;have psh:(1:Int)*2 ^ (f:Int).toNat=((2 ^ f:Nat):Int):=nB f;simp! only[List.set,f0,psh,fZ,at2];refine⟨⟨by omega,by omega,by decide⟩,p,m,rds,rows,told,s,U,(w.1|||2 ^ f,w.2),t1,rfl,e45 _ _ hp,aL.ext e45 hR,ok,ht,R,hU,Wa,sa,T1,by omega,by omega,hm,fun p6 M6 hp6 e6 g6=>?_⟩;have e46:=e45.trans e6;have s2f:Sub (2 ^ f) w.2:=fun g hg=>by
   rw[Nat.testBit_two_pow] at hg;have:f=g:=of_decide_eq_true hg
   subst this;exact hf.1
  unfold mU;simp! only[List.set,f0,psh,vq s2f,at3];refine⟨⟨by omega,by omega,by decide⟩,p,m,rds,rows,told,s,U,(w.1,ac w.2 (2 ^ f)),t2,rfl,e46 _ _ hp,aL.ext e46 hR,ok,ht,R,hU,Wb,sb,T2,by omega,by omega,hm,fun p7 M7 hp7 e7 g7=>?_⟩;unfold mT;simp! only[List.set];refine⟨trivial,trivial,?_⟩;show wSs cn jA _ _ _;unfold jA;simp! only[List.set,e7 _ _ g6,g7,cG];have l1:=Nat.le_trans (gD t1) (Nat.pow_le_pow_right (n:=2) (by decide) (by omega:t1.deep<=16));have l2:=Nat.le_trans (gD t2) (Nat.pow_le_pow_right (n:=2) (by decide) (by omega:t2.deep<=16));have hsz:(200000:Nat)<sizeLine:=by decide
  refine⟨by omega,fun p8 hp8=>?_⟩;rw[yw];have e47:=e46.trans e7;exact q p8 _ (e47.free hp8) (e47.then hp8) ab
end
end SH
namespace SH
open PySem L2 DD
def iB:Ss:=.cons (.ret (.mu "root_holds" (.fn 0 (.cons (.var 0) (.cons (.var 1) .nil))) (.cons (.var 2) .nil))) .nil
def cN:Ss:=.cons (.ret (.mu "node_holds" (.var 0) (.cons (.var 1) (.cons (.fld (.var 0) "sure") (.cons (.bin .BitOr (.fld (.var 0) "sure") (.fld (.var 0) "unsure")) .nil))))) .nil
def iT:Ss:=.cons (.ret (.and (.mu "node_holds" (.var 0) (.cons (.ix (.var 1) (.int 2)) (.cons (.bin .BitOr (.ix (.var 4) (.int 0)) (.var 6)) (.cons (.ix (.var 4) (.int 1)) .nil)))) (.mu "node_holds" (.var 0) (.cons (.ix (.var 1) (.int 3)) (.cons (.ix (.var 4) (.int 0)) (.cons (.bin .BitAnd (.ix (.var 4) (.int 1)) (.inv (.var 6))) .nil)))))) .nil
def dJ:Ss:=.cons (.set 6 (.bin .LShift (.int 1) (.ix (.var 1) (.int 1)))) iT
def dL:Ss:=.cons (.ite (.or (.cmp .NotEq (.bi .len (.cons (.var 1) .nil)) (.int 4)) (.or (.cmp .NotEq (.ix (.var 1) (.int 0)) (.str "split")) (.not (.val (.mu "is_one_of" (.var 0) (.cons (.ix (.var 1) (.int 1)) (.cons (.bin .BitAnd (.ix (.var 4) (.int 1)) (.inv (.ix (.var 4) (.int 0)))) .nil))))))) (.cons (.ret (.bl false)) .nil) .nil) dJ
def bw:Ss:=.cons (.ite (.cmp .Eq (.ix (.var 4) (.int 0)) (.ix (.var 4) (.int 1))) (.cons (.ret (.and (.cmp .Eq (.bi .len (.cons (.var 1) .nil)) (.int 2)) (.and (.cmp .Eq (.ix (.var 1) (.int 0)) (.str "world")) (.cmp .Eq (.ix (.var 1) (.int 1)) (.ix (.var 4) (.int 0)))))) .nil) .nil) dL
def bx:Ss:=.cons (.ite (.cmp .NotEq (.var 5) (.int 0)) (.cons (.ret (.and (.cmp .Eq (.bi .len (.cons (.var 1) .nil)) (.int 2)) (.and (.cmp .Eq (.ix (.var 1) (.int 0)) (.str "broken")) (.mu "is_one_of" (.var 0) (.cons (.ix (.var 1) (.int 1)) (.cons (.var 5) .nil)))))) .nil) .nil) bw
def iU:Ss:=.cons (.set 5 (.bin .BitAnd (.ix (.var 4) (.int 0)) (.inv (.ix (.var 4) (.int 1))))) bx
def dM:Ss:=.cons (.set 4 (.mu "narrowed" (.var 0) (.cons (.var 2) (.cons (.var 3) .nil)))) iU
def bn:Ss:=.cons (.ite (.or (.not (.val (.bi .isinst (.cons (.var 1) (.cons (.ty "tuple") .nil))))) (.or (.cmp .Lt (.bi .len (.cons (.var 1) .nil)) (.int 2)) (.not (.val (.fn 0 (.cons (.ix (.var 1) (.int 1)) .nil)))))) (.cons (.ret (.bl false)) .nil) .nil) dM
def c3:Ss:=.cons (.ret (.and (.fn 0 (.cons (.var 1) (.cons (.mu0 "how_many" (.fld (.var 0) "sheet")) .nil))) (.fn 1 (.cons (.var 2) (.cons (.var 1) .nil))))) .nil
def xr(c:CA)(S V:Addr):SpD:=fun ds M Q=>∃(a:Addr) (m:Nat) (rows:List Row) (s u f g:Nat),ds=[.ref a,.int (f:Int),.int (g:Int)]/\GroveAt c S V M a m rows s u/\f<m/\∀M',Ext M M'->Q (.bl (g.testBit f)) M'
def kt(c:CA)(S V:Addr)(d:Nat):SpD:=fun ds M Q=>∃(a:Addr) (m:Nat) (rows:List Row) (s u:Nat) (y:Nat×Nat) (t:Tr),ds=[.ref a,t.told,.int (y.1:Int),.int (y.2:Int)]/\GroveAt c S V M a m rows s u/\y.1<2 ^ m/\y.2<2 ^ m/\Told (gamG rows s u) y t/\t.deep<d/\∀M',Ext M M'->Q (.bl true) M'
def nj(c:CA)(S V:Addr)(d:Nat):SpD:=fun ds M Q=>∃(a:Addr) (m:Nat) (rows:List Row) (s u:Nat) (t:Tr),ds=[.ref a,t.told]/\GroveAt c S V M a m rows s u/\Told (gamG rows s u) (s,s|||u) t/\t.deep<d/\∀M',Ext M M'->Q (.bl true) M'
def ku(c:CA)(S:Addr):SpD:=fun ds M Q=>∃(sh:Addr) (m:Nat) (rows:List Row) (told s U:Nat) (t:Tr),ds=[.ref sh,.int (told:Int),t.told]/\SheetAt c S M sh m rows/\rows.length<64/\m<=12/\told<2 ^ m/\IsRoot rows told s U/\Told (gamG rows s (ac U s)) (s,U) t/\t.deep<13 /\
 ∀M',Ext M M'->Q (.bl true) M'
theorem s_pp:(("split" : Str) == "split")=true:=beq_self_eq_true _
section
variable {sh : Addr} {s u : Nat}
theorem xt:(gh sh s u).lookup ("node_holds" : Str)=none:=rfl
theorem Ir:(gh sh s u).lookup ("root_holds" : Str)=none:=rfl
theorem AU:(gh sh s u).lookup ("is_one_of" : Str)=none:=rfl
end
section
variable {cn : Cn} {ds : List D} {M : MH} {Q : DK} {c : CA} {S V : Addr}
theorem AV(hO:∀f∈mo,cn.O V f)(hT:cn.T S "how_many" = some (iR c S))(f0:cn.F.getD 0 (fun _ _ _=>False)=cO)(f1:cn.F.getD 1 (fun _ _ _=>False)=da)(h:xr c S V ds M Q):wSs cn c3 (fin Q) (ag ["", "", ""] ds) M:=by
 obtain⟨a,m,rows,s,u,f,g,rfl,A,hf,q⟩:=h;show wSs cn c3 (fin Q) [some (.ref a),some (.int (f:Int)),some (.int (g:Int))] M;obtain⟨sh,h1,h2⟩:=A.ex;have o1:=hO "sheet" (by decide +kernel);obtain⟨ok,crs,p1,p2,p3,ps1,ps2,ps3,k1,k2⟩:=id h2;unfold c3;simp! only[List.set,h1,AL,k1,sO,hT,f0,f1];refine⟨o1,trivial,sh,m,rows,rfl,h2,(f:Int),(m:Int),rfl,?_⟩;rw[decide_eq_true (by omega:(0:Int)<=(f:Int)),decide_eq_true (by omega:(f:Int)<(m:Int))];simp! only[Bool.and_self,f1];refine⟨(g:Int),(f:Int),rfl,by omega,?_⟩;rw[fY];exact q M (Ext.refl M)
theorem yP{d:Nat}(hT:cn.T V "narrowed" = some (lN c S V))(hT1:cn.T V "is_one_of" = some (xr c S V))(hT2:cn.T V "node_holds" = some (kt c S V d))(f0:cn.F.getD 0 (fun _ _ _=>False)=gt)(h:kt c S V (d+1) ds M Q):wSs cn bn (fin Q) (ag ["", "", "", "", "", "", ""] ds) M:=by
 obtain⟨a,m,rows,s,u,y,t,rfl,A,b1,b2,T,hd,q⟩:=h;show wSs cn bn (fin Q) [some (.ref a),some t.told,some (.int (y.1:Int)),some (.int (y.2:Int)),none,none,none] M;obtain⟨sh,h1,-⟩:=A.ex;have hm:=A.mlt;have six:∀w,Nar (gamG rows s u) y w->(∀M',Ext M M'->w.1<2 ^ m->w.2<2 ^ m->wSs cn bx (fin Q) [some (.ref a),some t.told,some (.int (y.1:Int)),some (.int (y.2:Int)),some (aD w),some (.int ((ac w.1 w.2:Nat):Int)),none] M')->wSs cn dM (fin Q) [some (.ref a),some t.told,some (.int (y.1:Int)),some (.int (y.2:Int)),none,none,none] M:=by
  intro w N k;unfold dM;simp! only[List.set,h1,sR,hT];refine⟨trivial,a,m,rows,s,u,y,rfl,A,b1,b2,fun w' M1 N1 w1 w2 e1=>?_⟩;cases N.det N1;unfold iU;simp! only[aD,wInv,List.set,at0,at1,bF];exact k M1 e1 w1 w2
 cases T with
 |@broken _ w f r n e=>
  have hf:(ac w.1 w.2).testBit f=true:=(br _ _).1 (by rw[e];exact .head _);have nz:ac w.1 w.2≠0:=fun z=>by rw[z] at hf;simp at hf
  unfold bn;simp_all! only[Tr.told,List.set,tyD,at0,at1,f0];refine⟨by decide,?_⟩;show Bif (!true) _ _;rw[Bool.not_true,aM];refine⟨(f:Int),rfl,?_⟩;simp! only[Bool.not_true];refine six w n fun M1 e1 w1 w2=>?_
  unfold bx;simp_all! only[Tr.told,aD,List.set,at0,at1,s_bb];rw[beq_false_of_ne (by omega:((ac w.1 w.2:Nat):Int)≠0)];simp_all! only[Bool.not_false,e1 _ _ h1,AU,hT1];refine⟨a,m,rows,s,u,f,_,rfl,A.ext e1,eB (Nat.lt_of_le_of_lt (cw _ _) w1) hf,fun M2 e2=>?_⟩;rw[hf];exact q M2 (e1.trans e2)
 |@world _ w n e=>
  have z1:ac w.1 w.2=0:=cx.2 (bP.2 (by rw[e];exact Sub.refl _));unfold bn;simp_all! only[Tr.told,List.set,tyD,at0,at1,f0];refine⟨by decide,?_⟩;show Bif (!true) _ _;rw[Bool.not_true,aM];refine⟨(w.1:Int),rfl,?_⟩;simp! only[Bool.not_true];refine six w n fun M1 e1 w1 w2=>?_
  unfold bx;rw[z1];simp_all! only[List.set];show wSs cn bw _ _ _;unfold bw;simp_all! only[Tr.told,aD,List.set,at0,at1,s_ww,←e,beq_self_eq_true];exact q M1 e1
 |@split _ w f r t1 t2 n hs e T1 T2=>
  have hd:max t1.deep t2.deep+1<d+1:=hd;have z1:ac w.1 w.2=0:=cx.2 (bP.2 hs);have hf:(ac w.2 w.1).testBit f=true:=(br _ _).1 (by rw[e];exact .head _);have hf2:=hf;rw[aN,Bool.and_eq_true,Bool.not_eq_true'] at hf2;have ne:w.1≠w.2:=fun z=>by rw[z,hf2.1] at hf2;cases hf2.2
  unfold bn;simp_all! only[Tr.told,List.set,tyD,at0,at1,f0];refine⟨by decide,?_⟩;show Bif (!true) _ _;rw[Bool.not_true,aM];refine⟨(f:Int),rfl,?_⟩;simp! only[Bool.not_true];refine six w n fun M1 e1 w1 w2=>?_
  have hfm:f<m:=eB w2 hf2.1;unfold bx;rw[z1];simp_all! only[List.set];show wSs cn bw _ _ _;unfold bw;simp_all! only[Tr.told,aD,List.set,at0,at1];rw[beq_false_of_ne (by omega:(w.1:Int)≠(w.2:Int))];show wSs cn dL _ _ _;unfold dL;simp_all! only[wInv,Tr.told,List.set,at0,at1,s_pp,bF,e1 _ _ h1,AU,hT1];refine⟨a,m,rows,s,u,f,_,rfl,A.ext e1,hfm,fun M2 e2=>?_⟩;rw[hf];simp! only[Bool.not_true];show wSs cn dJ _ _ _;unfold dJ;simp! only[Tr.told,List.set,at0,at1];refine⟨⟨by omega,by omega,by decide⟩,?_⟩;rw[nB];have e12:=e1.trans e2;unfold iT;simp! only[wInv,Tr.told,List.set,at0,at1,at2,at3,fZ,bF,e12 _ _ h1,xt,hT2];refine⟨trivial,a,m,rows,s,u,(w.1|||2 ^ f,w.2),t1,rfl,A.ext e12,Nat.or_lt_two_pow w1 (Nat.pow_lt_pow_right (by decide) hfm),w2,T1,by omega,fun M3 e3=>?_⟩;have e13:=e12.trans e3;simp! only[e13 _ _ h1,xt,hT2];refine⟨trivial,a,m,rows,s,u,(w.1,ac w.2 (2 ^ f)),t2,rfl,A.ext e13,w1,Nat.lt_of_le_of_lt (cw _ _) w2,T2,by omega,fun M4 e4=>?_⟩;exact q M4 (e13.trans e4)
theorem yQ{d:Nat}(hO:∀f∈mo,cn.O V f)(hT:cn.T V "node_holds" = some (kt c S V d))(h:nj c S V d ds M Q):wSs cn cN (fin Q) (ag ["", ""] ds) M:=by
 obtain⟨a,m,rows,s,u,t,rfl,A,T,hd,q⟩:=h;show wSs cn cN (fin Q) [some (.ref a),some t.told] M;obtain⟨sh,h1,-⟩:=A.ex;have o1:=hO "sure" (by decide +kernel);have o2:=hO "unsure" (by decide +kernel);unfold cN;simp! only[List.set,h1,xo,qw,fZ,xt,hT];have hu:=Nat.or_lt_two_pow A.slt A.ult;first
  |exact⟨trivial,o1,o1,o2,a,m,rows,s,u,(s,s|||u),t,rfl,A,A.slt,hu,T,hd,q⟩
  |exact⟨o1,o1,o2,trivial,a,m,rows,s,u,(s,s|||u),t,rfl,A,A.slt,hu,T,hd,q⟩
theorem yR{d:Nat}(hd:d=13)(hT:cn.T V "root_holds" = some (nj c S V d))(f0:cn.F.getD 0 (fun _ _ _=>False)=aX V (eO c S V))(h:ku c S ds M Q):wSs cn iB (fin Q) (ag ["", "", ""] ds) M:=by
 obtain⟨sh,m,rows,told,s,U,t,rfl,A,hn,hm,ht,R,T,hdp,q⟩:=h;show wSs cn iB (fin Q) [some (.ref sh),some (.int (told:Int)),some t.told] M;unfold iB;simp! only[List.set,f0];intro v hv;have ev:Ext M (updM M v (.ins V [])):=Ext.new hv;refine⟨v,sh,m,rows,told,rfl,ab,A.ext ev,hn,hm,ht,fun s' U' M1 R' b1 G1=>⟨rfl,?_⟩⟩;have e1:Ext M M1:=ExtBut.ext ev b1 hv;obtain⟨rfl,rfl⟩:=R.uniq R';obtain⟨sh',g1,-⟩:=G1.ex;simp! only[g1,Ir,hT];refine⟨trivial,v,m,rows,s,ac U s,t,rfl,G1,?_,by omega,fun M2 e2=>q M2 (e1.trans e2)⟩;rw[yt R.su];exact T
end
end SH
namespace SH
open PySem L2 DD
def t7:Ss:=.cons (.ret (.and (.cmp .Is (.fn 0 (.cons (.var 4) (.cons (.var 3) (.cons (.var 5) .nil)))) (.bl true)) (.cmp .Eq (.fn 1 (.cons (.var 4) (.cons (.var 3) .nil))) (.var 5)))) .nil
def t8:Ss:=.cons (.ite (.or (.cmp .NotEq (.fn 1 (.cons (.fn 2 (.cons (.int 0) (.cons (.lst .nil) .nil))) (.cons (.int 0) .nil))) (.tup (.cons (.str "world") (.cons (.int 0) .nil)))) (.cmp .IsNot (.fn 0 (.cons (.fn 2 (.cons (.int 0) (.cons (.lst .nil) .nil))) (.cons (.int 0) (.cons (.tup (.cons (.str "world") (.cons (.int 0) .nil))) .nil)))) (.bl true))) (.cons (.ret (.bl false)) .nil) .nil) t7
def AW:Ss:=.cons (.ite (.or (.cmp .Is (.var 8) .non) (.or (.not (.val (.fn 3 (.cons (.var 5) .nil)))) (.not (.val (.fn 4 (.cons (.fn 5 (.cons (.var 4) (.cons (.var 3) .nil))) (.cons (.var 8) .nil))))))) (.cons (.ret (.bl false)) .nil) .nil) t8
def AX:Ss:=.cons (.set 8 (.fn 6 (.cons (.var 2) (.cons (.var 3) (.cons (.var 1) (.cons (.var 6) (.cons (.var 7) (.cons (.var 5) .nil)))))))) AW
def AY:Ss:=.cons (.asg (.tp [6,7]) (.fn 7 (.cons (.var 2) (.cons (.var 3) .nil)))) AX
def AZ:Ss:=.cons (.set 5 (.fn 1 (.cons (.var 4) (.cons (.var 3) .nil)))) AY
def A0:Ss:=.cons (.set 4 (.fn 8 (.cons (.var 1) (.cons (.var 2) .nil)))) AZ
def A4:Ss:=.cons (.set 3 (.fn 9 (.cons (.var 0) (.cons (.var 1) .nil)))) A0
def A5:Ss:=.cons (.set 2 (.fn 10 (.cons (.var 0) (.cons (.var 1) (.cons (.int 3) (.cons (.int 24) .nil)))))) A4
def vt:Ss:=.cons (.set 1 (.bin .Add (.int 1) (.bin .Mod (.fn 11 (.cons (.var 0) (.cons (.int 0) .nil))) (.int 8)))) A5
def zC:SpD:=fun ds M Q=>∃(a:Addr) (ns:List Int),ds=[.ref a]/\M a=some (.rol (ns.map .int))/\ns.length<=63/\∀M',Q (.bl true) M'
def nJ(M:MH):Nat->D->Prop
 |0,x=>zA x=true
 |d+1,x=>zA x=true \/ ∃xs,(x=.tup xs \/ ∃a,x=.ref a/\M a=some (.lst xs))/\∀y∈xs,nJ M d y
def d3(d:Nat):SpD:=fun ds M Q=>∃x:D,ds=[x]/\nJ M d x/\Q (.bl true) M
def rT:SpD:=fun ds M Q=>∃(p p2:Addr) (ws:List Nat),ds=[.ref p,.ref p2]/\M p=some (.lst (nats ws))/\M p2=some (.lst (nats ws))/\Q (.bl true) M
theorem d4{M:MH}{x:D}(h:zA x=true):∀d,nJ M d x
 |0=>h
 |_+1=>.inl h
theorem oQ (M:MH):∀ (t:Tr) (d:Nat),t.deep < d->nJ M d t.told
 | _,0,h=>absurd h (Nat.not_lt_zero _)
 | .broken f,d + 1,_=>.inr ⟨_,.inl rfl,fun y hy=>by
  rcases List.mem_cons.1 hy with rfl | hy
  ·exact d4 rfl d
  rcases List.mem_cons.1 hy with rfl | hy
  ·exact d4 rfl d
  cases hy⟩
 | .world f,d + 1,_=>.inr ⟨_,.inl rfl,fun y hy=>by
  rcases List.mem_cons.1 hy with rfl | hy
  ·exact d4 rfl d
  rcases List.mem_cons.1 hy with rfl | hy
  ·exact d4 rfl d
  cases hy⟩
 | .split f a b,d + 1,h=>.inr ⟨_,.inl rfl,fun y hy=>by
  have h:max a.deep b.deep + 1 < d + 1:=h
  rcases List.mem_cons.1 hy with rfl | hy
  ·exact d4 rfl d
  rcases List.mem_cons.1 hy with rfl | hy
  ·exact d4 rfl d
  rcases List.mem_cons.1 hy with rfl | hy
  ·exact oQ M a d (by omega)
  rcases List.mem_cons.1 hy with rfl | hy
  ·exact oQ M b d (by omega)
  cases hy⟩
theorem A6:IsRoot [] 0 0 0:=⟨⟨⟨Sub.refl _,fun x hx=>by cases hx⟩,fun s hs=>hs.1⟩,⟨⟨Sub.refl _,fun x hx=>by cases hx⟩,fun s hs=>hs.1⟩,Sub.refl _,fun z o a _ _=>⟨Sub.zero _,a.2 0 ⟨Sub.refl _,fun x hx=>by cases hx⟩⟩⟩
theorem A9:Told (gamG [] 0 (ac 0 0)) (0,0) (.world 0):=by
 have e:ax (gamG [] 0 (ac 0 0)) (0,0)=(0,0):=by decide
 have n:Nar (gamG [] 0 (ac 0 0)) (0,0) (0,0):=by
  have:=Nar.stop (gam:=gamG [] 0 (ac 0 0)) (y:=(0,0)) (fun z=>z.2 e)
  rw[e] at this;exact this
 exact Told.world n rfl
section
variable {cn : Cn} {ds : List D} {M : MH} {Q : DK} {c : CA} {S Z : Addr}
theorem E7(h:d3 0 ds M Q):wSs cn bc (fin Q) (ag ["", ""] ds) M:=by
 obtain⟨x,rfl,hx,q⟩:=h;exact vp ⟨x,rfl,hx,q⟩
theorem E8 {d:Nat} (f0:cn.F.getD 0 (fun _ _ _=>False) = d3 d) (h:d3 (d + 1) ds M Q):wSs cn bc (fin Q) (ag ["", ""] ds) M:=by
 obtain ⟨x,rfl,hx | ⟨xs,hd,hx⟩,q⟩:=h
 ·exact vp ⟨x,rfl,hx,q⟩
 show wSs cn bc (fin Q) [some x,none] M
 have body:∀ (E:EndsD) (y:D),nJ M d y->E.nx [some x,some y] M->wSs cn gC E [some x,some y] M:=by
  intro E y ha k
  unfold gC
  simp! only [List.set,f0]
  exact ⟨y,rfl,ha,k⟩
 have key:∀ (g:MH->Prop),g M->∀ (ys:List D) (v:Option D),(∀ y ∈ ys,nJ M d y)->az g (.nm 1) (wSs cn gC) { nx:=wSs cn jX (fin Q),rt:=Q } ys [some x,v] M:=by
  intro g hg ys
  induction ys with
  | nil=>
   intro v _
   rw [az]
   unfold jX
   simp! only []
   exact q
  | cons y ys ih=>
   intro v hy
   rw [az]
   exact body _ y (hy y (.head _)) ⟨hg,ih _ fun x h=>hy x (.tail _ h)⟩
 unfold bc
 rcases hd with rfl | ⟨a,rfl,hM⟩
 ·simp! only [tyD,tysD]
  refine ⟨by decide,?_⟩
  show Bif true _ _
  rw [aU]
  exact key _ trivial xs none hx
 ·simp! only [tyD,tysD,hM]
  refine ⟨by decide,?_⟩
  show Bif true _ _
  rw [aU]
  exact key _ hM xs none hx
theorem GL(f0:cn.F.getD 0 (fun _ _ _=>False)=d3 14)(h:rT ds M Q):wSs cn kn (fin Q) (ag ["", ""] ds) M:=by
 obtain⟨p,p2,ws,rfl,h1,h2,q⟩:=h;show wSs cn kn (fin Q) [some (.ref p),some (.ref p2)] M;unfold kn;simp! only[List.set,f0];refine⟨_,rfl,.inr ⟨_,.inr ⟨p,rfl,h1⟩,fun y hy=>?_⟩,?_⟩
 ·obtain⟨w,_,rfl⟩:=List.mem_map.1 hy
  exact d4 rfl 13
 simp! only[h1,h2,rdL,eqN];exact⟨⟨zB _,zB _,depN _⟩,q⟩
theorem L3(f0:cn.F.getD 0 (fun _ _ _=>False)=ku c S)(f1:cn.F.getD 1 (fun _ _ _=>False)=jZ c S)(f2:cn.F.getD 2 (fun _ _ _=>False)=aX S (eL c S))(f3:cn.F.getD 3 (fun _ _ _=>False)=d3 14)(f4:cn.F.getD 4 (fun _ _ _=>False)=rT)
  (f5:cn.F.getD 5 (fun _ _ _=>False)=lP c S) (f6:cn.F.getD 6 (fun _ _ _=>False)=j0 13) (f7:cn.F.getD 7 (fun _ _ _=>False)=mS) (f8:cn.F.getD 8 (fun _ _ _=>False)=lJ c S) (f9:cn.F.getD 9 (fun _ _ _=>False)=mJ)
  (f10:cn.F.getD 10 (fun _ _ _=>False)=ko) (f11:cn.F.getD 11 (fun _ _ _=>False)=c7) (h:zC ds M Q):
  wSs cn vt (fin Q) (ag ["", "", "", "", "", "", "", "", ""] ds) M:=by
 obtain⟨a,ns,rfl,hM,-,q⟩:=h;show wSs cn vt (fin Q) [some (.ref a),none,none,none,none,none,none,none,none] M;have hsz:(2000:Nat)<sizeLine:=by decide
 unfold vt;simp! only[List.set,f11];refine⟨a,ns,0,rfl,hM,by decide,?_⟩;obtain⟨m,em,hm⟩:∃m:Nat,1+cellAt ns 0%8=(m:Int)/\(0<m/\m<=8):=by
  refine⟨(1+cellAt ns 0%8).toNat,?_,?_⟩<;>omega
 dsimp only;rw[em];unfold A5;simp! only[List.set,f10];refine⟨a,ns,m,3,24,rfl,hM,⟨hm.1,by omega⟩,by decide,fun p rds rows M1 g1 hR ok hl e1=>?_⟩;unfold A4;simp! only[List.set,f9];refine⟨a,ns,m,rfl,e1 _ _ hM,by omega,fun told ht=>?_⟩;unfold A0;simp! only[List.set,f8];refine⟨m,p,rds,rows,rfl,g1,hR,ok,fun sh M2 e2 A=>?_⟩;have hn:rows.length<64:=by omega
 have hm12:m<=12:=by omega
 unfold AZ;simp! only[List.set,f1];refine⟨sh,m,rows,told,rfl,A,hn,hm12,ht,fun s U t M3 R T hd e3=>?_⟩;have same:∀s' U' t',IsRoot rows told s' U'->Told (gamG rows s' (ac U' s')) (s',U') t'->t'=t:=by
  intro s' U' t' R' T';obtain⟨rfl,rfl⟩:=R.uniq R';exact T'.det T
 unfold AY;simp! only[List.set,f7];have e23:=e2.trans e3;refine⟨p,m,rds,rows,told,rfl,e23 _ _ g1,aL.ext e23 hR,ok,ht,fun s' U' M4 R' hU e4=>?_⟩;obtain⟨rfl,rfl⟩:=R.uniq R';simp! only[aD,List.set];refine⟨rfl,?_⟩;have e24:=e23.trans e4;unfold AX;simp! only[List.set,f6];refine⟨p,m,rds,rows,told,s,U,(s,U),t,rfl,e24 _ _ g1,aL.ext e24 hR,ok,ht,R,hU,⟨⟨Sub.refl _,R.su⟩,R.su,Sub.refl _⟩,R.su,T,hd,by decide,by omega,fun p5 M5 hp5 e5 g5=>?_⟩;have e25:=e24.trans e5;have e35:=e3.trans (e4.trans e5);unfold AW;simp! only[List.set,f3,f4,f5];refine⟨trivial,t.told,rfl,oQ M5 t 14 (by omega),?_⟩;simp! only[Bool.not_true];refine⟨sh,m,rows,told,rfl,A.ext e35,hn,hm12,ht,fun s' U' t' p6 M6 R' T' hp6 e6 g6=>?_⟩;have ht':=same s' U' t' R' T';subst ht';refine⟨p6,p5,t'.worlds,rfl,g6,e6 _ _ g5,?_⟩;simp! only[Bool.not_true];have e36:=e35.trans e6;show wSs cn t8 _ _ _;unfold t8;simp! only[List.set,f0,f1,f2];intro r hr;have e7:=Ext.new (o:=MO.lst []) hr;have g7:updM M6 r (MO.lst []) r=some (.lst []):=ab;generalize updM M6 r (MO.lst [])=M7 at *;intro y hy;have ey:Ext M7 (updM M7 y (.ins S [])):=Ext.new hy;refine⟨y,0,r,[],[],rfl,ab,ey _ _ g7,.nil,⟨by decide,by decide,fun x hx=>by cases hx⟩,fun M8 b8 A8=>⟨rfl,?_⟩⟩;have e8:Ext M7 M8:=ExtBut.ext ey b8 hy;refine⟨y,0,[],0,rfl,A8,by decide,by decide,by decide,fun s0 U0 t0 M9 R0 T0 hd0 e9=>?_⟩;obtain⟨rfl,rfl⟩:=A6.uniq R0
 have:=T0.det A9
 subst this;simp! only[Tr.told];refine⟨⟨rfl,rfl,by decide⟩,?_⟩;rw[show eqD (.tup [.str "world",.int ((0:Nat):Int)]) (.tup [.str "world",.int 0])=true from iE _ rfl];simp! only[Bool.not_true];intro r2 hr2;have e10:=Ext.new (o:=MO.lst []) hr2;have g10:updM M9 r2 (MO.lst []) r2=some (.lst []):=ab;generalize updM M9 r2 (MO.lst [])=M10 at *;intro y2 hy2;have ey2:Ext M10 (updM M10 y2 (.ins S [])):=Ext.new hy2;refine⟨y2,0,r2,[],[],rfl,ab,ey2 _ _ g10,.nil,⟨by decide,by decide,fun x hx=>by cases hx⟩,fun M11 b11 A11=>⟨rfl,?_⟩⟩;have e11:Ext M10 M11:=ExtBut.ext ey2 b11 hy2;refine⟨y2,0,[],0,0,0,.world 0,rfl,A11,by decide,by decide,by decide,A6,A9,by decide,fun M12 e12=>?_⟩;simp! only[Bool.not_true];refine⟨trivial,?_⟩;show wSs cn t7 _ _ _;have e3z:Ext M2 M12:=e36.trans (e7.trans (e8.trans (e9.trans (e10.trans (e11.trans e12)))));unfold t7;simp! only[List.set,f0,f1];refine⟨sh,m,rows,told,s,U,t',rfl,A.ext e3z,hn,hm12,ht,R,T,hd,fun M13 e13=>?_⟩;simp! only[];refine⟨trivial,?_⟩;refine⟨sh,m,rows,told,rfl,A.ext (e3z.trans e13),hn,hm12,ht,fun s' U' t2 M14 R2 T2 hd2 e14=>?_⟩
 have:=same s' U' t2 R2 T2
 subst this;simp! only[];obtain⟨tp1,tp2⟩:=qx t2;obtain⟨xs,hx⟩:∃xs,t2.told=.tup xs:=by cases t2<;>exact⟨_,rfl⟩
 rw[hx] at tp1 tp2 ⊢;refine⟨⟨tp1,tp1,by omega⟩,?_⟩;rw[iE _ tp1];exact q M14
end
end SH
namespace K62
open PySem L2 DD
abbrev vv:List Str:=["thing"]
abbrev sU:List Str:=["thing"]
theorem CK:FnScope vv sU (aa iZ):=by ac_rfl
abbrev CL:List Str:=[]
theorem CM:ao ⟨vv,aa iZ,true,aq,bltL,CL⟩ SH.j9 (ae iZ)=true:=by decide +kernel
abbrev vw:List Str:=["thing", "many"]
abbrev sV:List Str:=["thing", "many"]
theorem CN:FnScope vw sV (aa i0):=by ac_rfl
abbrev CO:List Str:=["is_whole"]
theorem CP:ao ⟨vw,aa i0,true,aq,bltL,CO⟩ SH.ka (ae i0)=true:=by decide +kernel
abbrev vx:List Str:=["facts", "fact"]
abbrev sW:List Str:=["facts", "fact"]
theorem CQ:FnScope vx sW (aa i3):=by ac_rfl
abbrev CS:List Str:=[]
theorem CU:ao ⟨vx,aa i3,true,aq,bltL,CS⟩ SH.j7 (ae i3)=true:=by decide +kernel
abbrev Ba:List Str:=["facts", "found", "fact"]
abbrev yy:List Str:=["facts"]
theorem GM:FnScope Ba yy (aa l7):=by ac_rfl
abbrev GN:List Str:=[]
theorem GO:ao ⟨Ba,aa l7,true,aq,bltL,GN⟩ SH.mF (ae l7)=true:=by decide +kernel
abbrev yz:List Str:=["facts"]
abbrev vy:List Str:=["facts"]
theorem E9:FnScope yz vy (aa kH):=by ac_rfl
abbrev Fa:List Str:=["has_fact"]
theorem Fb:ao ⟨yz,aa kH,true,aq,bltL,Fa⟩ SH.lG (ae kH)=true:=by decide +kernel
abbrev sX:List Str:=["many"]
abbrev qy:List Str:=["many"]
theorem Bb:FnScope sX qy (aa gO):=by ac_rfl
abbrev Bc:List Str:=[]
theorem Bd:ao ⟨sX,aa gO,true,aq,bltL,Bc⟩ SH.jf (ae gO)=true:=by decide +kernel
abbrev vz:List Str:=["facts", "found"]
abbrev sY:List Str:=["facts", "found"]
theorem CV:FnScope vz sY (aa i5):=by ac_rfl
abbrev CW:List Str:=["has_fact"]
theorem CY:ao ⟨vz,aa i5,true,aq,bltL,CW⟩ SH.j8 (ae i5)=true:=by decide +kernel
abbrev sZ:List Str:=["told"]
abbrev qz:List Str:=["told"]
def xu:Ss:=.cons (.ret (.fn 0 (.cons (.ix (.var 0) (.int 1)) (.cons (.ix (.var 0) (.int 2)) .nil)))) .nil
def xv:Ss:=.cons (.ite (.cmp .Eq (.ix (.var 0) (.int 0)) (.str "some")) (.cons (.ret (.fn 1 (.cons (.ix (.var 0) (.int 1)) (.cons (.ix (.var 0) (.int 2)) .nil)))) .nil) .nil) xu
def xw:Ss:=.cons (.ite (.cmp .Eq (.ix (.var 0) (.int 0)) (.str "lack")) (.cons (.ret (.fn 2 (.cons (.ix (.var 0) (.int 1)) .nil))) .nil) .nil) xv
def Be:Ss:=.cons (.ite (.cmp .Eq (.ix (.var 0) (.int 0)) (.str "have")) (.cons (.ret (.fn 3 (.cons (.ix (.var 0) (.int 1)) .nil))) .nil) .nil) xw
theorem Bf:FnScope sZ qz (aa gP):=by ac_rfl
abbrev Bg:List Str:=["Lead", "Some", "Lack", "Have"]
theorem Bh:ao ⟨sZ,aa gP,true,aq,bltL,Bg⟩ Be (ae gP)=true:=by decide +kernel
abbrev pG:List Str:=["conds", "have", "may", "cond"]
abbrev nK:List Str:=["conds", "have", "may"]
theorem xx:FnScope pG nK (aa d8):=by ac_rfl
abbrev xy:List Str:=[]
theorem xz:ao ⟨pG,aa d8,true,aq,bltL,xy⟩ SH.gu (ae d8)=true:=by decide +kernel
abbrev pH:List Str:=["sheet", "heads", "told", "against"]
abbrev nL:List Str:=["sheet", "heads", "told", "against"]
theorem xA:FnScope pH nL (aa d9):=by ac_rfl
abbrev xB:List Str:=["set_of", "ranked_among"]
theorem xC:ao ⟨pH,aa d9,true,aq,bltL,xB⟩ SH.gy (ae d9)=true:=by decide +kernel
abbrev nM:List Str:=["sheet", "heads", "told", "against", "ranked", "left", "step", "come", "fresh", "newest"]
abbrev m6:List Str:=["sheet", "heads", "told", "against"]
theorem vA:FnScope nM m6 (aa dk):=by ac_rfl
abbrev vB:List Str:=["carried_heads", "helped_rows", "set_of", "all_rows", "members"]
theorem vC:ao ⟨nM,aa dk,true,aq,bltL,vB⟩ SH.fF (ae dk)=true:=by decide +kernel
abbrev vD:List Str:=["sheet", "heads", "found", "fact"]
abbrev td:List Str:=["sheet", "heads"]
theorem CZ:FnScope vD td (aa i6):=by ac_rfl
abbrev C0:List Str:=["members"]
theorem C1:ao ⟨vD,aa i6,true,aq,bltL,C0⟩ SH.kf (ae i6)=true:=by decide +kernel
abbrev pI:List Str:=["sheet", "fresh", "heads", "found", "fact", "row"]
abbrev nN:List Str:=["sheet", "fresh", "heads"]
theorem xD:FnScope pI nN (aa ef):=by ac_rfl
abbrev xE:List Str:=["has_fact"]
theorem xF:ao ⟨pI,aa ef,true,aq,bltL,xE⟩ SH.gx (ae ef)=true:=by decide +kernel
abbrev m7:List Str:=["sheet", "rows", "have", "may", "found", "row", "head"]
abbrev mq:List Str:=["sheet", "rows", "have", "may"]
theorem t9:FnScope m7 mq (aa cP):=by ac_rfl
abbrev ua:List Str:=["all_carried"]
theorem ub:ao ⟨m7,aa cP,true,aq,bltL,ua⟩ SH.dX (ae cP)=true:=by decide +kernel
abbrev qA:List Str:=["sheet", "heads", "known", "wide", "narrow", "pairs", "pair"]
abbrev pJ:List Str:=["sheet", "heads", "known", "wide", "narrow"]
theorem yS:FnScope qA pJ (aa fP):=by ac_rfl
abbrev yT:List Str:=["next_pair"]
theorem yU:ao ⟨qA,aa fP,true,aq,bltL,yT⟩ SH.iw (ae fP)=true:=by decide +kernel
abbrev tf:List Str:=["sheet", "heads", "known", "wide", "narrow", "first"]
abbrev qB:List Str:=["sheet", "heads", "known", "wide", "narrow"]
theorem Bl:FnScope tf qB (aa gQ):=by ac_rfl
abbrev Bm:List Str:=["least_among"]
theorem Bn:ao ⟨tf,aa gQ,true,aq,bltL,Bm⟩ SH.jn (ae gQ)=true:=by decide +kernel
abbrev yA:List Str:=["sheet", "told"]
abbrev vE:List Str:=["sheet", "told"]
theorem Fc:FnScope yA vE (aa kI):=by ac_rfl
abbrev Fd:List Str:=["Grove"]
theorem Fe:ao ⟨yA,aa kI,true,aq,bltL,Fd⟩ SH.lM (ae kI)=true:=by decide +kernel
abbrev tj:List Str:=["sheet", "told"]
abbrev qC:List Str:=["sheet", "told"]
theorem Bo:FnScope tj qC (aa gR):=by ac_rfl
abbrev Bp:List Str:=["tree_worlds", "tree_of"]
theorem Bq:ao ⟨tj,aa gR,true,aq,bltL,Bp⟩ SH.jv (ae gR)=true:=by decide +kernel
abbrev pK:List Str:=["node"]
abbrev gG:List Str:=["node"]
theorem nO:FnScope pK gG (aa eg):=by ac_rfl
abbrev xG:List Str:=["tree_worlds"]
theorem nP:ao ⟨pK,aa eg,true,aq,bltL,xG⟩ SH.cz (ae eg)=true:=by decide +kernel
abbrev qD:List Str:=["sheet", "told", "tree"]
abbrev pL:List Str:=["sheet", "told", "tree"]
theorem yV:FnScope qD pL (aa fQ):=by ac_rfl
abbrev yW:List Str:=["Grove"]
theorem yX:ao ⟨qD,aa fQ,true,aq,bltL,yW⟩ SH.iB (ae fQ)=true:=by decide +kernel
abbrev nQ:List Str:=["conds", "found", "cond"]
abbrev m8:List Str:=["conds"]
theorem vF:FnScope nQ m8 (aa dl):=by ac_rfl
abbrev vG:List Str:=[]
theorem vH:ao ⟨nQ,aa dl,true,aq,bltL,vG⟩ SH.fm (ae dl)=true:=by decide +kernel
abbrev nR:List Str:=["many", "heads", "found", "row", "head"]
abbrev m9:List Str:=["many", "heads"]
theorem vI:FnScope nR m9 (aa dm):=by ac_rfl
abbrev vJ:List Str:=[]
theorem vK:ao ⟨nR,aa dm,true,aq,bltL,vJ⟩ SH.fo (ae dm)=true:=by decide +kernel
abbrev nS:List Str:=["many", "leanings", "found", "row", "row_leaned", "fact", "lack"]
abbrev na:List Str:=["many", "leanings"]
theorem vL:FnScope nS na (aa dq):=by ac_rfl
abbrev vM:List Str:=[]
theorem vN:ao ⟨nS,aa dq,true,aq,bltL,vM⟩ SH.fq (ae dq)=true:=by decide +kernel
abbrev Br:List Str:=["thing", "many", "conds"]
abbrev yB:List Str:=["thing", "many"]
def kc:Ss:=.cons (.ret (.bi .all (.cons (.comp 1 (.fn 0 (.cons (.var 3) (.cons (.var 1) .nil))) (.nm 3) (.seq (.var 2)) .no) .nil))) .nil
def kd:Ss:=.cons (.ite (.or (.not (.val (.bi .isinst (.cons (.var 2) (.cons (.ty "list") .nil))))) (.cmp .Gt (.bi .len (.cons (.var 2) .nil)) (.glob 0))) (.cons (.ret (.bl false)) .nil) .nil) kc
def hZ:Ss:=.cons (.set 2 (.ix (.var 0) (.int 1))) kd
def kL:Ss:=.cons (.ite (.or (.not (.val (.bi .isinst (.cons (.var 0) (.cons (.ty "tuple") .nil))))) (.or (.cmp .NotEq (.bi .len (.cons (.var 0) .nil)) (.int 2)) (.not (.val (.fn 1 (.cons (.ix (.var 0) (.int 0)) (.cons (.var 1) .nil))))))) (.cons (.ret (.bl false)) .nil) .nil) hZ
theorem GP:FnScope Br yB (aa l9):=by ac_rfl
abbrev GQ:List Str:=["is_cond", "is_below"]
theorem GR:ao ⟨Br,aa l9,true,aq,bltL,GQ⟩ kL (ae l9)=true:=by decide +kernel
abbrev yC:List Str:=["thing", "many"]
abbrev vO:List Str:=["thing", "many"]
theorem Ff:FnScope yC vO (aa kJ):=by ac_rfl
abbrev Fg:List Str:=["is_listing", "is_below", "is_number"]
theorem Fh:ao ⟨yC,aa kJ,true,aq,bltL,Fg⟩ SH.dS (ae kJ)=true:=by decide +kernel
abbrev tm:List Str:=["thing"]
abbrev qE:List Str:=["thing"]
def ga:Ss:=.cons (.ret (.and (.fn 0 (.cons (.var 0) .nil)) (.and (.cmp .GtE (.var 0) (.int 1)) (.cmp .LtE (.var 0) (.glob 1))))) .nil
theorem Bs:FnScope tm qE (aa gS):=by ac_rfl
abbrev Bt:List Str:=["is_whole"]
theorem Bu:ao ⟨tm,aa gS,true,aq,bltL,Bt⟩ ga (ae gS)=true:=by decide +kernel
abbrev qF:List Str:=["thing", "many"]
abbrev pM:List Str:=["thing", "many"]
def fj:Ss:=.cons (.ret (.and (.bi .all (.cons (.comp 1 (.fn 0 (.cons (.var 2) (.cons (.var 1) .nil))) (.nm 2) (.seq (.var 0)) .no) .nil)) (.cmp .Eq (.lenSet (.var 0)) (.bi .len (.cons (.var 0) .nil))))) .nil
def ej:Ss:=.cons (.ite (.or (.not (.val (.bi .isinst (.cons (.var 0) (.cons (.ty "tuple") .nil))))) (.or (.cmp .Lt (.bi .len (.cons (.var 0) .nil)) (.int 1)) (.cmp .Gt (.bi .len (.cons (.var 0) .nil)) (.glob 2)))) (.cons (.ret (.bl false)) .nil) .nil) fj
theorem yY:FnScope qF pM (aa fR):=by ac_rfl
abbrev yZ:List Str:=["is_below"]
theorem y7:ao ⟨qF,aa fR,true,aq,bltL,yZ⟩ ej (ae fR)=true:=by decide +kernel
abbrev pN:List Str:=["_law_script", "_law_k"]
abbrev nT:List Str:=["_law_script", "_law_k"]
theorem xH:FnScope pN nT (aa eh):=by ac_rfl
abbrev xI:List Str:=[]
theorem xJ:ao ⟨pN,aa eh,true,aq,bltL,xI⟩ SH.gA (ae eh)=true:=by decide +kernel
abbrev vP:List Str:=["_law_left", "_law_many", "_law_found", "_law_number"]
abbrev tq:List Str:=["_law_left", "_law_many"]
theorem C2:FnScope vP tq (aa i7):=by ac_rfl
abbrev C3:List Str:=[]
theorem C4:ao ⟨vP,aa i7,true,aq,bltL,C3⟩ SH.kg (ae i7)=true:=by decide +kernel
abbrev tt:List Str:=["_law_thing", "_law_part"]
abbrev jD:List Str:=["_law_thing"]
theorem qG:FnScope tt jD (aa gT):=by ac_rfl
abbrev Bv:List Str:=["_law_plain"]
theorem qH:ao ⟨tt,aa gT,true,aq,bltL,Bv⟩ SH.bc (ae gT)=true:=by decide +kernel
abbrev vQ:List Str:=["_law_found", "_law_due"]
abbrev tu:List Str:=["_law_found", "_law_due"]
theorem C5:FnScope vQ tu (aa i8):=by ac_rfl
abbrev C7:List Str:=["_law_plain"]
theorem C9:ao ⟨vQ,aa i8,true,aq,bltL,C7⟩ SH.kn (ae i8)=true:=by decide +kernel
abbrev vR:List Str:=["_law_left", "_law_many", "_law_kind", "_law_rest", "_law_facts_here", "_law_k"]
abbrev tw:List Str:=["_law_left", "_law_many"]
theorem Da:FnScope vR tw (aa i9):=by ac_rfl
abbrev Db:List Str:=["_law_draw"]
theorem Dc:ao ⟨vR,aa i9,true,aq,bltL,Db⟩ SH.kh (ae i9)=true:=by decide +kernel
abbrev vS:List Str:=["_law_script", "_law_many", "_law_begin", "_law_most", "_law_rows_here", "_law_cell", "_law_left", "_law_k", "_law_head"]
abbrev tx:List Str:=["_law_script", "_law_many", "_law_begin", "_law_most"]
theorem Dd:FnScope vS tx (aa ja):=by ac_rfl
abbrev De:List Str:=["_law_draw", "_law_cond", "_law_cell_at"]
theorem Df:ao ⟨vS,aa ja,true,aq,bltL,De⟩ SH.kj (ae ja)=true:=by decide +kernel
abbrev vT:List Str:=["_law_script", "_law_many", "_law_cell"]
abbrev tz:List Str:=["_law_script", "_law_many"]
theorem Dg:FnScope vT tz (aa jb):=by ac_rfl
abbrev Dh:List Str:=["_law_cell_at"]
theorem Di:ao ⟨vT,aa jb,true,aq,bltL,Dh⟩ SH.kl (ae jb)=true:=by decide +kernel
abbrev tB:List Str:=["_law_many", "_law_rows_here"]
abbrev qI:List Str:=["_law_many", "_law_rows_here"]
theorem Bw:FnScope tB qI (aa gU):=by ac_rfl
abbrev Bx:List Str:=["Sheet"]
theorem By:ao ⟨tB,aa gU,true,aq,bltL,Bx⟩ SH.jk (ae gU)=true:=by decide +kernel
abbrev mr:List Str:=["_law_script", "_law_many", "_law_begin", "_law_most", "_law_rows_here", "_law_k"]
abbrev ly:List Str:=["_law_script", "_law_many", "_law_begin", "_law_most"]
theorem rY:FnScope mr ly (aa cA):=by ac_rfl
abbrev rZ:List Str:=["_law_rows", "_law_cell_at"]
theorem r0:ao ⟨mr,aa cA,true,aq,bltL,rZ⟩ SH.dh (ae cA)=true:=by decide +kernel
abbrev pO:List Str:=["_law_cond_here", "_law_have", "_law_may", "_law_ahead"]
abbrev nV:List Str:=["_law_cond_here", "_law_have", "_law_may"]
theorem xK:FnScope pO nV (aa ei):=by ac_rfl
abbrev xL:List Str:=[]
theorem xM:ao ⟨pO,aa ei,true,aq,bltL,xL⟩ SH.bO (ae ei)=true:=by decide +kernel
abbrev yD:List Str:=["_law_conds", "_law_have", "_law_may", "_law_cond_here"]
abbrev vU:List Str:=["_law_conds", "_law_have", "_law_may"]
theorem Fi:FnScope yD vU (aa kK):=by ac_rfl
abbrev Fk:List Str:=["_law_carried"]
theorem Fl:ao ⟨yD,aa kK,true,aq,bltL,Fk⟩ SH.lI (ae kK)=true:=by decide +kernel
abbrev tD:List Str:=["_law_rows_here", "_law_told_here", "_law_against", "_law_have", "_law_more", "_law_head", "_law_conds"]
abbrev qJ:List Str:=["_law_rows_here", "_law_told_here", "_law_against"]
theorem Bz:FnScope tD qJ (aa gW):=by ac_rfl
abbrev BA:List Str:=["_law_met"]
theorem BB:ao ⟨tD,aa gW,true,aq,bltL,BA⟩ SH.jw (ae gW)=true:=by decide +kernel
abbrev qK:List Str:=["_law_rows_here", "_law_told_here", "_law_sure", "_law_may", "_law_before"]
abbrev pP:List Str:=["_law_rows_here", "_law_told_here", "_law_sure", "_law_may"]
theorem y8:FnScope qK pP (aa fS):=by ac_rfl
abbrev y9:List Str:=["_law_least"]
theorem za:ao ⟨qK,aa fS,true,aq,bltL,y9⟩ SH.iz (ae fS)=true:=by decide +kernel
abbrev tE:List Str:=["_law_some", "_law_many"]
abbrev qL:List Str:=["_law_some", "_law_many"]
theorem BC:FnScope tE qL (aa gX):=by ac_rfl
abbrev BD:List Str:=[]
theorem BE:ao ⟨tE,aa gX,true,aq,bltL,BD⟩ SH.jz (ae gX)=true:=by decide +kernel
abbrev vV:List Str:=["_law_rows_here", "_law_told_here", "_law_sure", "_law_more", "_law_may"]
abbrev tF:List Str:=["_law_rows_here", "_law_told_here"]
theorem Dj:FnScope vV tF (aa jc):=by ac_rfl
abbrev Dk:List Str:=["_law_least"]
theorem Dl:ao ⟨vV,aa jc,true,aq,bltL,Dk⟩ SH.kr (ae jc)=true:=by decide +kernel
abbrev qM:List Str:=["_law_rows_here", "_law_told_here", "_law_many", "_law_sure", "_law_may", "_law_tree", "_law_over", "_law_fact", "_law_one", "_law_other"]
abbrev iC:List Str:=["_law_rows_here", "_law_told_here", "_law_many", "_law_sure", "_law_may", "_law_tree"]
theorem pQ:FnScope qM iC (aa fT):=by ac_rfl
abbrev zb:List Str:=["_law_walked", "_law_facts", "_law_narrow"]
theorem pR:ao ⟨qM,aa fT,true,aq,bltL,zb⟩ SH.iA (ae fT)=true:=by decide +kernel
abbrev IN:List Str:=["_law_script", "_law_many", "_law_rows_here", "_law_told_here", "_law_sheet_here", "_law_tree", "_law_sure", "_law_may", "_law_due"]
abbrev L4:List Str:=["_law_script"]
theorem L5:FnScope IN L4 (aa uY):=by ac_rfl
abbrev L6:List Str:=["tree_holds", "tree_of", "Sheet", "_law_plain", "_law_same", "worlds_of", "_law_walked", "_law_root", "_law_sheet", "_law_told", "_law_with_pairs", "_law_cell_at"]
theorem L7:ao ⟨IN,aa uY,true,aq,bltL,L6⟩ SH.vt (ae uY)=true:=by decide +kernel
abbrev tG:List Str:=["self", "fact"]
abbrev BF:List Str:=["self", "fact"]
def BG:Ss:=.cons (.setF (.var 0) "fact" (.var 1)) .nil
theorem BH:FnScope tG BF (aa gY):=by ac_rfl
abbrev BI:List Str:=[]
theorem BJ:ao ⟨tG,aa gY,true,aq,bltL,BI⟩ BG (ae gY)=true:=by decide +kernel
abbrev nW:List Str:=["self", "have", "may"]
abbrev vW:List Str:=["self", "have", "may"]
theorem vX:FnScope nW vW (aa dr):=by ac_rfl
abbrev vY:List Str:=["has_fact"]
theorem vZ:ao ⟨nW,aa dr,true,aq,bltL,vY⟩ SH.eR (ae dr)=true:=by decide +kernel
def eU:Ss:=.cons (.expr (.fn 0 (.cons (.int 0) .nil))) .nil
abbrev nX:List Str:=["self"]
abbrev wa:List Str:=["self"]
theorem wb:FnScope nX wa (aa du):=by ac_rfl
abbrev wc:List Str:=[]
theorem wd:ao ⟨nX,aa du,true,aq,bltL,wc⟩ SH.eV (ae du)=true:=by decide +kernel
abbrev tH:List Str:=["self", "fact"]
abbrev BK:List Str:=["self", "fact"]
def BL:Ss:=.cons (.setF (.var 0) "fact" (.var 1)) .nil
theorem BM:FnScope tH BK (aa gZ):=by ac_rfl
abbrev BN:List Str:=[]
theorem BO:ao ⟨tH,aa gZ,true,aq,bltL,BN⟩ BL (ae gZ)=true:=by decide +kernel
abbrev nY:List Str:=["self", "have", "may"]
abbrev we:List Str:=["self", "have", "may"]
def wf:Ss:=.cons (.ret (.not (.fn 0 (.cons (.var 2) (.cons (.fld (.var 0) "fact") .nil))))) .nil
theorem wg:FnScope nY we (aa dv):=by ac_rfl
abbrev wj:List Str:=["has_fact"]
theorem wk:ao ⟨nY,aa dv,true,aq,bltL,wj⟩ wf (ae dv)=true:=by decide +kernel
abbrev nZ:List Str:=["self"]
abbrev wl:List Str:=["self"]
theorem wm:FnScope nZ wl (aa dw):=by ac_rfl
abbrev wn:List Str:=[]
theorem wo:ao ⟨nZ,aa dw,true,aq,bltL,wn⟩ SH.eY (ae dw)=true:=by decide +kernel
abbrev tI:List Str:=["self", "number", "facts"]
abbrev BP:List Str:=["self", "number", "facts"]
theorem BQ:FnScope tI BP (aa hJ):=by ac_rfl
abbrev BR:List Str:=[]
theorem BS:ao ⟨tI,aa hJ,true,aq,bltL,BR⟩ SH.jd (ae hJ)=true:=by decide +kernel
abbrev n0:List Str:=["self", "have", "may"]
abbrev wp:List Str:=["self", "have", "may"]
theorem wq:FnScope n0 wp (aa dy):=by ac_rfl
abbrev wt:List Str:=["count_in"]
theorem wu:ao ⟨n0,aa dy,true,aq,bltL,wt⟩ SH.eZ (ae dy)=true:=by decide +kernel
abbrev n5:List Str:=["self"]
abbrev wv:List Str:=["self"]
theorem ww:FnScope n5 wv (aa dz):=by ac_rfl
abbrev wx:List Str:=[]
theorem wy:ao ⟨n5,aa dz,true,aq,bltL,wx⟩ SH.fb (ae dz)=true:=by decide +kernel
abbrev tJ:List Str:=["self", "facts", "at"]
abbrev BU:List Str:=["self", "facts", "at"]
theorem BV:FnScope tJ BU (aa hV):=by ac_rfl
abbrev BW:List Str:=[]
theorem BX:ao ⟨tJ,aa hV,true,aq,bltL,BW⟩ SH.je (ae hV)=true:=by decide +kernel
abbrev n6:List Str:=["self", "have", "may"]
abbrev wz:List Str:=["self", "have", "may"]
theorem wA:FnScope n6 wz (aa dA):=by ac_rfl
abbrev wB:List Str:=["has_fact", "count_in"]
theorem wC:ao ⟨n6,aa dA,true,aq,bltL,wB⟩ SH.fg (ae dA)=true:=by decide +kernel
abbrev n9:List Str:=["self"]
abbrev wD:List Str:=["self"]
theorem wF:FnScope n9 wD (aa dB):=by ac_rfl
abbrev wG:List Str:=[]
theorem wH:ao ⟨n9,aa dB,true,aq,bltL,wG⟩ SH.fh (ae dB)=true:=by decide +kernel
abbrev oa:List Str:=["self", "sheet", "told", "facts"]
abbrev wJ:List Str:=["self", "sheet", "told"]
theorem wK:FnScope oa wJ (aa dC):=by ac_rfl
abbrev wL:List Str:=["to_and_fro", "all_facts"]
theorem wM:ao ⟨oa,aa dC,true,aq,bltL,wL⟩ SH.fG (ae dC)=true:=by decide +kernel
abbrev jE:List Str:=["self"]
abbrev oe:List Str:=["self"]
theorem og:FnScope jE oe (aa bC):=by ac_rfl
abbrev oh:List Str:=[]
theorem oi:ao ⟨jE,aa bC,true,aq,bltL,oh⟩ SH.cc (ae bC)=true:=by decide +kernel
abbrev jF:List Str:=["self"]
abbrev oj:List Str:=["self"]
theorem om:FnScope jF oj (aa bD):=by ac_rfl
abbrev on:List Str:=[]
theorem oo:ao ⟨jF,aa bD,true,aq,bltL,on⟩ SH.ce (ae bD)=true:=by decide +kernel
abbrev qO:List Str:=["self", "sheet", "told", "sorting", "count"]
abbrev zc:List Str:=["self", "sheet", "told"]
def fH:Ss:=.cons (.setF (.var 0) "unsure" (.mu0 "open_facts" (.var 3))) .nil
def fI:Ss:=.cons (.setF (.var 0) "sure" (.mu0 "true_facts" (.var 3))) fH
def cX:Ss:=.cons (.setF (.var 0) "sheet" (.var 1)) fI
def fJ:Ss:=.cons (.ite (.cmp .Gt (.var 4) (.glob 3)) (.cons .never .nil) .nil) cX
def fK:Ss:=.cons (.set 4 (.bi .len (.cons (.fn 0 (.cons (.mu0 "open_facts" (.var 3)) .nil)) .nil))) fJ
def eD:Ss:=.cons (.set 3 (.fn 1 (.cons (.var 1) (.cons (.var 2) .nil)))) fK
theorem zd:FnScope qO zc (aa fU):=by ac_rfl
abbrev ze:List Str:=["members", "Sorting"]
theorem zf:ao ⟨qO,aa fU,true,aq,bltL,ze⟩ eD (ae fU)=true:=by decide +kernel
abbrev lz:List Str:=["self"]
abbrev qP:List Str:=["self"]
theorem qQ:FnScope lz qP (aa cg):=by ac_rfl
abbrev qR:List Str:=[]
theorem qS:ao ⟨lz,aa cg,true,aq,bltL,qR⟩ SH.cY (ae cg)=true:=by decide +kernel
abbrev kW:List Str:=["self", "tree"]
abbrev pT:List Str:=["self", "tree"]
theorem pU:FnScope kW pT (aa bV):=by ac_rfl
abbrev pV:List Str:=[]
theorem pX:ao ⟨kW,aa bV,true,aq,bltL,pV⟩ SH.cN (ae bV)=true:=by decide +kernel
abbrev iV:List Str:=["self", "against"]
abbrev nk:List Str:=["self", "against"]
theorem nn:FnScope iV nk (aa bt):=by ac_rfl
abbrev np:List Str:=["least_among"]
theorem nq:ao ⟨iV,aa bt,true,aq,bltL,np⟩ SH.bU (ae bt)=true:=by decide +kernel
abbrev mw:List Str:=["self", "sure", "may", "more", "less"]
abbrev r9:List Str:=["self", "sure", "may"]
theorem sd:FnScope mw r9 (aa cB):=by ac_rfl
abbrev se:List Str:=[]
theorem sf:ao ⟨mw,aa cB,true,aq,bltL,se⟩ SH.dg (ae cB)=true:=by decide +kernel
abbrev lA:List Str:=["self", "sure", "may", "narrow", "beyond", "between", "bit", "with_fact"]
abbrev qT:List Str:=["self", "sure", "may"]
theorem kX:FnScope lA qT (aa ci):=by ac_rfl
abbrev qU:List Str:=["members"]
theorem kY:ao ⟨lA,aa ci,true,aq,bltL,qU⟩ SH.cZ (ae ci)=true:=by decide +kernel
abbrev kZ:List Str:=["self", "node", "sure", "may", "narrow", "beyond", "bit"]
abbrev pY:List Str:=["self", "node", "sure", "may"]
theorem jO:FnScope kZ pY (aa bW):=by ac_rfl
abbrev pZ:List Str:=["is_whole"]
theorem jP:ao ⟨kZ,aa bW,true,aq,bltL,pZ⟩ SH.bn (ae bW)=true:=by decide +kernel
abbrev lB:List Str:=["self", "number", "facts"]
abbrev qV:List Str:=["self", "number", "facts"]
theorem qW:FnScope lB qV (aa cj):=by ac_rfl
abbrev qX:List Str:=["is_below", "has_fact"]
theorem qY:ao ⟨lB,aa cj,true,aq,bltL,qX⟩ SH.c3 (ae cj)=true:=by decide +kernel
abbrev qZ:List Str:=["self", "many", "rows", "number", "row"]
abbrev zg:List Str:=["self", "many", "rows"]
def fu:Ss:=.cons (.setF (.var 0) "helped" (.fn 0 (.cons (.var 1) (.cons (.fld (.var 0) "leanings") .nil)))) .nil
def fw:Ss:=.cons (.setF (.var 0) "leanings" (.comp 1 (.fn 1 (.cons (.var 5) .nil)) (.nm 5) (.seq (.fld (.var 0) "conds")) .no)) fu
def fA:Ss:=.cons (.setF (.var 0) "headed" (.fn 2 (.cons (.var 1) (.cons (.fld (.var 0) "heads") .nil)))) fw
def fB:Ss:=.cons (.setF (.var 0) "conds" (.bi .tuple (.cons (.comp 1 (.bi .tuple (.cons (.comp 1 (.fn 3 (.cons (.var 6) .nil)) (.nm 6) (.seq (.ix (.var 5) (.int 1))) .no) .nil)) (.nm 5) (.seq (.var 2)) .no) .nil))) fA
def fD:Ss:=.cons (.setF (.var 0) "heads" (.bi .tuple (.cons (.comp 1 (.ix (.var 5) (.int 0)) (.nm 5) (.seq (.var 2)) .no) .nil))) fB
def ca:Ss:=.cons (.setF (.var 0) "many" (.var 1)) fD
def cb:Ss:=.cons (.ite (.not (.val (.fn 4 (.cons (.var 4) (.cons (.var 1) .nil))))) (.cons .never .nil) .nil) .nil
def fE:Ss:=.cons (.for (.tp [3,4]) (.enum (.cons (.var 2) .nil)) cb) ca
def et:Ss:=.cons (.ite (.or (.not (.val (.fn 5 (.cons (.var 1) (.cons (.bin .Add (.glob 4) (.int 1)) .nil))))) (.or (.not (.val (.bi .isinst (.cons (.var 2) (.cons (.ty "list") .nil))))) (.cmp .Gt (.bi .len (.cons (.var 2) .nil)) (.glob 5)))) (.cons .never .nil) .nil) fE
theorem zh:FnScope qZ zg (aa fV):=by ac_rfl
abbrev zi:List Str:=["rows_by_help", "row_leanings", "rows_by_head", "made_cond", "is_row", "is_below"]
theorem zj:ao ⟨qZ,aa fV,true,aq,bltL,zi⟩ et (ae fV)=true:=by decide +kernel
abbrev mx:List Str:=["self"]
abbrev sg:List Str:=["self"]
theorem si:FnScope mx sg (aa cC):=by ac_rfl
abbrev sj:List Str:=[]
theorem sk:ao ⟨mx,aa cC,true,aq,bltL,sj⟩ SH.dc (ae cC)=true:=by decide +kernel
abbrev my:List Str:=["self", "fact"]
abbrev sn:List Str:=["self", "fact"]
theorem sr:FnScope my sn (aa cE):=by ac_rfl
abbrev ss:List Str:=[]
theorem sv:ao ⟨my,aa cE,true,aq,bltL,ss⟩ SH.de (ae cE)=true:=by decide +kernel
abbrev jQ:List Str:=["self", "fact"]
abbrev oR:List Str:=["self", "fact"]
theorem oS:FnScope jQ oR (aa bJ):=by ac_rfl
abbrev oT:List Str:=[]
theorem oU:ao ⟨jQ,aa bJ,true,aq,bltL,oT⟩ SH.cu (ae bJ)=true:=by decide +kernel
abbrev nb:List Str:=["self", "row"]
abbrev uc:List Str:=["self", "row"]
theorem ud:FnScope nb uc (aa cQ):=by ac_rfl
abbrev ue:List Str:=[]
theorem uf:ao ⟨nb,aa cQ,true,aq,bltL,ue⟩ SH.dU (ae cQ)=true:=by decide +kernel
abbrev mz:List Str:=["self", "row"]
abbrev sx:List Str:=["self", "row"]
theorem sy:FnScope mz sx (aa cF):=by ac_rfl
abbrev sA:List Str:=[]
theorem sB:ao ⟨mz,aa cF,true,aq,bltL,sA⟩ SH.df (ae cF)=true:=by decide +kernel
end K62
namespace K62
open PySem PySem.Spec PyProof.Rows L2 DD
theorem us0{P:List Value->Prop}(h:P []):∀us:List Value,us.length=0->P us
 |[],_=>h
theorem us1{P:List Value->Prop}(h:∀a,P [a]):∀us:List Value,us.length=1->P us
 |a::t,hl=>us0 (P:=fun t=>P (a::t)) (h a) t (Nat.succ.inj hl)
 |[],hl=>nomatch hl
theorem us2{P:List Value->Prop}(h:∀a b,P [a,b]):∀us:List Value,us.length=2->P us
 |a::t,hl=>us1 (P:=fun t=>P (a::t)) (h a) t (Nat.succ.inj hl)
 |[],hl=>nomatch hl
theorem us3{P:List Value->Prop}(h:∀a b c,P [a,b,c]):∀us:List Value,us.length=3->P us
 |a::t,hl=>us2 (P:=fun t=>P (a::t)) (h a) t (Nat.succ.inj hl)
 |[],hl=>nomatch hl
theorem us4{P:List Value->Prop}(h:∀a b c d,P [a,b,c,d]):∀us:List Value,us.length=4->P us
 |a::t,hl=>us3 (P:=fun t=>P (a::t)) (h a) t (Nat.succ.inj hl)
 |[],hl=>nomatch hl
theorem us5{P:List Value->Prop}(h:∀a b c d e,P [a,b,c,d,e]):∀us:List Value,us.length=5->P us
 |a::t,hl=>us4 (P:=fun t=>P (a::t)) (h a) t (Nat.succ.inj hl)
 |[],hl=>nomatch hl
theorem us6{P:List Value->Prop}(h:∀a b c d e f,P [a,b,c,d,e,f]):∀us:List Value,us.length=6->P us
 |a::t,hl=>us5 (P:=fun t=>P (a::t)) (h a) t (Nat.succ.inj hl)
 |[],hl=>nomatch hl
def metC(c:SH.CA):MT0:=fun a m=>(SH.kindAt c a).bind fun k=>if m = "carried" then some (SH.bH c k) else if m = "leaning" then some (SH.bI c k) else none
def metS(c:SH.CA)(S:Addr):MT0:=fun a m=>if a=S then(if m = "how_many" then some (SH.iR c S) else if m = "rows_for" then some (SH.kN c S) else if m = "rows_helped" then some (SH.ge c S) else if m = "head_of" then some (SH.jU c S) else if m = "conds_of" then some (SH.kO c S) else none) else none
def GS(S:Addr):OK0:=fun C f=>C=S/\f∈SH.kM
def Fm(Z:Addr):OK0:=fun C f=>C=Z/\f∈SH.vn
def metZ(Z:Addr):MT0:=fun a m=>if a=Z then(if m = "true_facts" then some (SH.ib Z) else if m = "open_facts" then some (SH.ic Z) else none) else none
theorem wN{Z:Addr}:metZ Z Z "true_facts" = some (SH.ib Z):=by unfold metZ;rw[if_pos rfl,if_pos rfl]
theorem wO{Z:Addr}:metZ Z Z "open_facts" = some (SH.ic Z):=by unfold metZ;rw[if_pos rfl,if_neg (by decide +kernel),if_pos rfl]
def L8(V:Addr):OK0:=fun C f=>C=V/\f∈SH.mo
def met1(V:Addr)(x:Str)(sp:SpD):MT0:=fun a m=>if a=V/\m=x then some sp else none
def met2(V:Addr)(x y:Str)(sp sq:SpD):MT0:=fun a m=>if a=V/\m=x then some sp else if a=V/\m=y then some sq else none
def metU(V:Addr)(x:Str)(sp:SpD)(T:MT0):MT0:=fun a m=>if a=V/\m=x then some sp else T a m
theorem DY{V:Addr}{x:Str}{sp:SpD}{T:MT0}:metU V x sp T V x=some sp:=by unfold metU;rw[if_pos ⟨rfl,rfl⟩]
theorem xN{V:Addr}{x y:Str}{sp:SpD}{T:MT0}(h:y≠x):metU V x sp T V y=T V y:=by unfold metU;rw[if_neg (fun z=>h z.2)]
theorem lU{V:Addr}{x:Str}{sp:SpD}:met1 V x sp V x=some sp:=by unfold met1;rw[if_pos ⟨rfl,rfl⟩]
theorem Iu{V:Addr}{x y:Str}{sp sq:SpD}:met2 V x y sp sq V x=some sp:=by unfold met2;rw[if_pos ⟨rfl,rfl⟩]
theorem Iv{V:Addr}{x y:Str}{sp sq:SpD}(h:y≠x):met2 V x y sp sq V y=some sq:=by unfold met2;rw[if_neg (fun z=>h z.2),if_pos ⟨rfl,rfl⟩]
section
variable {P : Program} {w : World} {K : PySem.W.Frag} {mg : Str -> Option Value} {base : Heap} {c : SH.CA} {S Z V : Addr} {k : Nat}
theorem BY(h:c.apart)(t:SH.CT):metC c (c.at t.kind) "carried" = some (SH.bH c t.kind):=by
 unfold metC;rw[h _ t.kind_lt];rfl
theorem BZ(h:c.apart)(t:SH.CT):metC c (c.at t.kind) "leaning" = some (SH.bI c t.kind):=by
 unfold metC;rw[h _ t.kind_lt];rfl
theorem pS:metS c S S "how_many" = some (SH.iR c S):=by unfold metS;rw[if_pos rfl,if_pos rfl]
theorem zk:metS c S S "rows_for" = some (SH.kN c S):=by unfold metS;rw[if_pos rfl,if_neg (by decide +kernel),if_pos rfl]
theorem ug:metS c S S "rows_helped" = some (SH.ge c S):=by unfold metS;rw[if_pos rfl,if_neg (by decide +kernel),if_neg (by decide +kernel),if_pos rfl]
theorem q0:metS c S S "head_of" = some (SH.jU c S):=by unfold metS;rw[if_pos rfl,if_neg (by decide +kernel),if_neg (by decide +kernel),if_neg (by decide +kernel),if_pos rfl]
theorem zl:metS c S S "conds_of" = some (SH.kO c S):=by unfold metS;rw[if_pos rfl,if_neg (by decide +kernel),if_neg (by decide +kernel),if_neg (by decide +kernel),if_neg (by decide +kernel),if_pos rfl]
theorem q9{x:Str}{st:Stmt}{ps:List Str}{f:Addr}{fd:FuncData}(D0:IsDef K mg x st ps f fd):FnD P w K mg base k x (fun _ _ _=>False):=
 ⟨st,ps,f,fd,D0,⟨fun _ _ _ _ ⟨_,_,_,_,_,z,_⟩=>z.elim,fun _ _ _ _ _ _ _ _ _ _ _ _ _ ⟨_,_,_,_,_,z,_⟩=>z.elim⟩⟩
structure Env0 (K:PySem.W.Frag) (mg:Str->Option Value) (c:SH.CA) (S Z V:Addr):Prop where
 gl:∀(j:Nat) x,aq[j]?=some x->qe K mg x (lE.getD j .non)
 bl:∀x,bltL.contains x=true->mg x=none
 cl:∀i,i<4->clsIn K (c.at i) SH.iF=true
 sh:clsIn K S SH.kM=true
 so:clsIn K Z SH.vn=true
 gv:clsIn K V SH.mo=true
theorem Env0.fl(E:Env0 K mg c S Z V):∀C f,SH.fldO c C f->Cls K C/\cf K C f:=by
 rintro C f ⟨i,hi,rfl,hf⟩;exact⟨aG (E.cl i hi),oz (E.cl i hi) hf⟩
theorem Env0.fs(E:Env0 K mg c S Z V):∀C f,GS S C f->Cls K C/\cf K C f:=by
 rintro C f ⟨rfl,hf⟩;exact⟨aG E.sh,oz E.sh hf⟩
abbrev Fns(P:Program)(w:World)(K:PySem.W.Frag)(mg:Str->Option Value)(base:Heap)(k:Nat)(fns:List Str)(F:List SpD):Prop:=∀(j:Nat) (x:Str),fns[j]?=some x->∃k',k'<=k/\dQ P w K mg base k' x (F.getD j fun _ _ _=>False)
theorem nm0{fns:List Str}{F:List SpD}(E:Env0 K mg c S Z V)(hf:Fns P w K mg base k fns F):
 Names P w K mg base k aq bltL fns ⟨F,lE,SH.fldO c,fun _ _=>none,fun _ _=>none⟩:=⟨E.gl,E.bl,hf,E.fl,(fun _ _ _ z=>nomatch z),(fun _ _ _ z=>nomatch z)⟩
theorem nmO{fns:List Str}{F:List SpD}(E:Env0 K mg c S Z V)(hf:Fns P w K mg base k fns F):
 Names P w K mg base k aq bltL fns ⟨F,lE,GS S,fun _ _=>none,fun _ _=>none⟩:=⟨E.gl,E.bl,hf,E.fs,(fun _ _ _ z=>nomatch z),(fun _ _ _ z=>nomatch z)⟩
theorem nmC{fns:List Str}{F:List SpD}(E:Env0 K mg c S Z V)(mt:∀C m sp,metC c C m=some sp->∃k',k'<=k/\aO P w K mg base k' C m sp)(hf:Fns P w K mg base k fns F):
 Names P w K mg base k aq bltL fns ⟨F,lE,SH.fldO c,metC c,fun _ _=>none⟩:=⟨E.gl,E.bl,hf,E.fl,mt,(fun _ _ _ z=>nomatch z)⟩
theorem nmS{fns:List Str}{F:List SpD}(E:Env0 K mg c S Z V)(mt:∀C m sp,metS c S C m=some sp->∃k',k'<=k/\aO P w K mg base k' C m sp)(hf:Fns P w K mg base k fns F):
 Names P w K mg base k aq bltL fns ⟨F,lE,SH.fldO c,metS c S,fun _ _=>none⟩:=⟨E.gl,E.bl,hf,E.fl,mt,(fun _ _ _ z=>nomatch z)⟩
theorem gk{T:MT0}{j:Nat}(h:j<=k)(mt:∀C m sp,T C m=some sp->∃k',k'<=j/\aO P w K mg base k' C m sp):∀C m sp,T C m=some sp->∃k',k'<=k/\aO P w K mg base k' C m sp:=fun C m sp e=>let⟨k',h1,h2⟩:=mt C m sp e;⟨k',Nat.le_trans h1 h,h2⟩
theorem Env0.fz(E:Env0 K mg c S Z V):∀C f,Fm Z C f->Cls K C/\cf K C f:=by
 rintro C f ⟨rfl,hf⟩;exact⟨aG E.so,oz E.so hf⟩
theorem nmZO{fns:List Str}{F:List SpD}(E:Env0 K mg c S Z V)(hf:Fns P w K mg base k fns F):
 Names P w K mg base k aq bltL fns ⟨F,lE,Fm Z,fun _ _=>none,fun _ _=>none⟩:=⟨E.gl,E.bl,hf,E.fz,(fun _ _ _ z=>nomatch z),(fun _ _ _ z=>nomatch z)⟩
theorem nmSZ{fns:List Str}{F:List SpD}(E:Env0 K mg c S Z V)(mt:∀C m sp,metS c S C m=some sp->∃k',k'<=k/\aO P w K mg base k' C m sp)(hf:Fns P w K mg base k fns F):
 Names P w K mg base k aq bltL fns ⟨F,lE,Fm Z,metS c S,fun _ _=>none⟩:=⟨E.gl,E.bl,hf,E.fz,mt,(fun _ _ _ z=>nomatch z)⟩
theorem Env0.fv(E:Env0 K mg c S Z V):∀C f,L8 V C f->Cls K C/\cf K C f:=by
 rintro C f ⟨rfl,hf⟩;exact⟨aG E.gv,oz E.gv hf⟩
theorem nmG{O:OK0}{T:MT0}{fns:List Str}{F:List SpD}(E:Env0 K mg c S Z V)(ho:∀C f,O C f->Cls K C/\cf K C f)(mt:∀C m sp,T C m=some sp->∃k',k'<=k/\aO P w K mg base k' C m sp)(hf:Fns P w K mg base k fns F):
 Names P w K mg base k aq bltL fns ⟨F,lE,O,T,fun _ _=>none⟩:=⟨E.gl,E.bl,hf,ho,mt,(fun _ _ _ z=>nomatch z)⟩
theorem mt1{x:Str}{sp:SpD}{j:Nat}(hj:j<=k)(h:aO P w K mg base j V x sp):∀C m sp',met1 V x sp C m=some sp'->∃k',k'<=k/\aO P w K mg base k' C m sp':=by
 intro C m sp' e;unfold met1 at e;split at e
 ·rename_i q
  obtain⟨rfl,rfl⟩:=q;cases e;exact⟨j,hj,h⟩
 ·cases e
theorem mtU{x:Str}{sp:SpD}{T:MT0}{j:Nat}(hj:j<=k)(h:aO P w K mg base j V x sp)(mt:∀C m sp',T C m=some sp'->∃k',k'<=k/\aO P w K mg base k' C m sp'):∀C m sp',metU V x sp T C m=some sp'->∃k',k'<=k/\aO P w K mg base k' C m sp':=by
 intro C m sp' e;unfold metU at e;split at e
 ·rename_i q
  obtain⟨rfl,rfl⟩:=q;cases e;exact⟨j,hj,h⟩
 ·exact mt C m sp' e
theorem mt2{x y:Str}{sp sq:SpD}{i j:Nat}(hi:i<=k)(hj:j<=k)(h:aO P w K mg base i V x sp)(h':aO P w K mg base j V y sq):∀C m sp',met2 V x y sp sq C m=some sp'->∃k',k'<=k/\aO P w K mg base k' C m sp':=by
 intro C m sp' e;unfold met2 at e;split at e
 ·rename_i q
  obtain⟨rfl,rfl⟩:=q;cases e;exact⟨i,hi,h⟩
 ·split at e
  ·rename_i q
   obtain⟨rfl,rfl⟩:=q;cases e;exact⟨j,hj,h'⟩
  ·cases e
theorem oV(i:Nat){n:Nat}(h:∀t:SH.CT,t.kind=i->t.flds.length+1=n){ps:List Str}(hp:ps.length=n):∀ds M Q,SH.bX c i ds M Q->ds.length=ps.length:=by
 rintro ds M Q ⟨a,t,hk,rfl,_⟩;rw[List.length_cons,List.length_map,h t hk,hp]
theorem L9(E:Env0 K mg c S Z V)
  (ap:c.apart)
  {hp:Heap}
  (X:K.In hp)
  (G:hp.Ns mainGlobals mg)
  (a_0:HDef K "has_fact" i3)
  (a_1:HDef K "count_in" i5)
  (a_2:HDef K "members" kH)
  (a_3:HDef K "set_of" l7)
  (a_4:HDef K "all_carried" d8)
  (a_5:HDef K "carried_heads" cP)
  (a_6:HDef K "helped_rows" ef)
  (a_7:HDef K "all_rows" i6)
  (a_8:HDef K "ranked_among" dk)
  (a_9:HDef K "least_among" d9)
  (a_10:HDef K "next_pair" gQ)
  (a_11:HDef K "to_and_fro" fP)
  (a_12:HDef K "all_facts" gO)
  (a_13:HDef K "is_whole" iZ)
  (a_14:HDef K "is_below" i0)
  (a_15:HDef K "tree_holds" fQ)
  (a_16:HDef K "tree_of" kI)
  (a_17:HDef K "rows_by_help" dq)
  (a_18:HDef K "row_leanings" dl)
  (a_19:HDef K "rows_by_head" dm)
  (a_20:HDef K "made_cond" gP)
  (a_21:HDef K "is_listing" fR)
  (a_22:HDef K "is_number" gS)
  (a_23:HDef K "is_cond" kJ)
  (a_24:HDef K "is_row" l9)
  (a_25:HDef K "_law_plain" gT)
  (a_26:HDef K "_law_same" i8)
  (a_27:HDef K "tree_worlds" eg)
  (a_28:HDef K "worlds_of" gR)
  (a_29:HDef K "_law_facts" gX)
  (a_30:HDef K "_law_carried" ei)
  (a_31:HDef K "_law_met" kK)
  (a_32:HDef K "_law_least" gW)
  (a_33:HDef K "_law_narrow" fS)
  (a_34:HDef K "_law_walked" fT)
  (a_35:HDef K "_law_root" jc)
  (a_36:HDef K "_law_sheet" gU)
  (a_37:HDef K "_law_cell_at" eh)
  (a_38:HDef K "_law_told" jb)
  (a_39:HDef K "_law_draw" i7)
  (a_40:HDef K "_law_cond" i9)
  (a_41:HDef K "_law_rows" ja)
  (a_42:HDef K "_law_with_pairs" cA)
  {f_43:Addr}{d_43:FuncData}(a_43:DefAt K "law" uY f_43 d_43)
  (mg_44:mg "Have" = some (.ref (c.at 0))) (mk_44:PySem.W.makesIn K (c.at 0)=true) (kp_44:PySem.W.keepIn K (.ref (c.at 0))=true)
  (a_51:aB K (c.at 0) "__init__" "Have.__init__" gY)
  (a_52:aB K (c.at 0) "carried" "Have.carried" dr)
  (a_53:aB K (c.at 0) "leaning" "Have.leaning" du)
  (mg_45:mg "Lack" = some (.ref (c.at 1))) (mk_45:PySem.W.makesIn K (c.at 1)=true) (kp_45:PySem.W.keepIn K (.ref (c.at 1))=true)
  (a_54:aB K (c.at 1) "__init__" "Lack.__init__" gZ)
  (a_55:aB K (c.at 1) "carried" "Lack.carried" dv)
  (a_56:aB K (c.at 1) "leaning" "Lack.leaning" dw)
  (mg_46:mg "Some" = some (.ref (c.at 2))) (mk_46:PySem.W.makesIn K (c.at 2)=true) (kp_46:PySem.W.keepIn K (.ref (c.at 2))=true)
  (a_57:aB K (c.at 2) "__init__" "Some.__init__" hJ)
  (a_58:aB K (c.at 2) "carried" "Some.carried" dy)
  (a_59:aB K (c.at 2) "leaning" "Some.leaning" dz)
  (mg_47:mg "Lead" = some (.ref (c.at 3))) (mk_47:PySem.W.makesIn K (c.at 3)=true) (kp_47:PySem.W.keepIn K (.ref (c.at 3))=true)
  (a_60:aB K (c.at 3) "__init__" "Lead.__init__" hV)
  (a_61:aB K (c.at 3) "carried" "Lead.carried" dA)
  (a_62:aB K (c.at 3) "leaning" "Lead.leaning" dB)
  (mg_48:mg "Sheet" = some (.ref S)) (mk_48:PySem.W.makesIn K S=true) (kp_48:PySem.W.keepIn K (.ref S)=true)
  (a_63:aB K S "__init__" "Sheet.__init__" fV)
  (a_64:aB K S "how_many" "Sheet.how_many" cC)
  (a_65:aB K S "rows_for" "Sheet.rows_for" cE)
  (a_66:aB K S "rows_helped" "Sheet.rows_helped" bJ)
  (a_67:aB K S "head_of" "Sheet.head_of" cQ)
  (a_68:aB K S "conds_of" "Sheet.conds_of" cF)
  (mg_49:mg "Sorting" = some (.ref Z)) (mk_49:PySem.W.makesIn K Z=true) (kp_49:PySem.W.keepIn K (.ref Z)=true)
  (a_79:aB K Z "__init__" "Sorting.__init__" dC)
  (a_85:aB K Z "true_facts" "Sorting.true_facts" bC)
  (a_87:aB K Z "open_facts" "Sorting.open_facts" bD)
  (mg_50:mg "Grove" = some (.ref V)) (mk_50:PySem.W.makesIn K V=true) (kp_50:PySem.W.keepIn K (.ref V)=true)
  (a_95:aB K V "__init__" "Grove.__init__" fU)
  (a_104:aB K V "least_against" "Grove.least_against" bt)
  (a_105:aB K V "narrowed" "Grove.narrowed" cB)
  (a_106:aB K V "told_node" "Grove.told_node" ci)
  (a_107:aB K V "root_node" "Grove.root_node" cg)
  (a_108:aB K V "is_one_of" "Grove.is_one_of" cj)
  (a_109:aB K V "node_holds" "Grove.node_holds" bW)
  (a_110:aB K V "root_holds" "Grove.root_holds" bV):
  FnOk P w K mg base CX0 27 f_43 d_43 ["_law_script"] (iX K SH.zC):=by
 obtain⟨_,_,a_0⟩:=a_0;obtain⟨_,_,a_1⟩:=a_1;obtain⟨_,_,a_2⟩:=a_2;obtain⟨_,_,a_3⟩:=a_3;obtain⟨_,_,a_4⟩:=a_4;obtain⟨_,_,a_5⟩:=a_5;obtain⟨_,_,a_6⟩:=a_6;obtain⟨_,_,a_7⟩:=a_7;obtain⟨_,_,a_8⟩:=a_8;obtain⟨_,_,a_9⟩:=a_9;obtain⟨_,_,a_10⟩:=a_10;obtain⟨_,_,a_11⟩:=a_11;obtain⟨_,_,a_12⟩:=a_12;obtain⟨_,_,a_13⟩:=a_13;obtain⟨_,_,a_14⟩:=a_14;obtain⟨_,_,a_15⟩:=a_15;obtain⟨_,_,a_16⟩:=a_16;obtain⟨_,_,a_17⟩:=a_17;obtain⟨_,_,a_18⟩:=a_18;obtain⟨_,_,a_19⟩:=a_19;obtain⟨_,_,a_20⟩:=a_20;obtain⟨_,_,a_21⟩:=a_21;obtain⟨_,_,a_22⟩:=a_22;obtain⟨_,_,a_23⟩:=a_23;obtain⟨_,_,a_24⟩:=a_24;obtain⟨_,_,a_25⟩:=a_25;obtain⟨_,_,a_26⟩:=a_26;obtain⟨_,_,a_27⟩:=a_27;obtain⟨_,_,a_28⟩:=a_28;obtain⟨_,_,a_29⟩:=a_29;obtain⟨_,_,a_30⟩:=a_30;obtain⟨_,_,a_31⟩:=a_31;obtain⟨_,_,a_32⟩:=a_32;obtain⟨_,_,a_33⟩:=a_33;obtain⟨_,_,a_34⟩:=a_34;obtain⟨_,_,a_35⟩:=a_35;obtain⟨_,_,a_36⟩:=a_36;obtain⟨_,_,a_37⟩:=a_37;obtain⟨_,_,a_38⟩:=a_38;obtain⟨_,_,a_39⟩:=a_39;obtain⟨_,_,a_40⟩:=a_40;obtain⟨_,_,a_41⟩:=a_41;obtain⟨_,_,a_42⟩:=a_42;obtain⟨_,_,a_51⟩:=a_51;obtain⟨_,_,a_52⟩:=a_52;obtain⟨_,_,a_53⟩:=a_53;obtain⟨_,_,a_54⟩:=a_54;obtain⟨_,_,a_55⟩:=a_55;obtain⟨_,_,a_56⟩:=a_56;obtain⟨_,_,a_57⟩:=a_57;obtain⟨_,_,a_58⟩:=a_58;obtain⟨_,_,a_59⟩:=a_59;obtain⟨_,_,a_60⟩:=a_60;obtain⟨_,_,a_61⟩:=a_61;obtain⟨_,_,a_62⟩:=a_62;obtain⟨_,_,a_63⟩:=a_63;obtain⟨_,_,a_64⟩:=a_64;obtain⟨_,_,a_65⟩:=a_65;obtain⟨_,_,a_66⟩:=a_66;obtain⟨_,_,a_67⟩:=a_67;obtain⟨_,_,a_68⟩:=a_68;obtain⟨_,_,a_79⟩:=a_79;obtain⟨_,_,a_85⟩:=a_85;obtain⟨_,_,a_87⟩:=a_87;obtain⟨_,_,a_95⟩:=a_95;obtain⟨_,_,a_104⟩:=a_104;obtain⟨_,_,a_105⟩:=a_105;obtain⟨_,_,a_106⟩:=a_106;obtain⟨_,_,a_107⟩:=a_107;obtain⟨_,_,a_108⟩:=a_108;obtain⟨_,_,a_109⟩:=a_109;obtain⟨_,_,a_110⟩:=a_110;have F_0:FnD P w K mg base 1 "has_fact" (SH.da):=aE (a_0.def_ (ps:=sW) X G (fun _ _ _ _ _ _=>us2 fun _ _=>rfl)) CQ (nm0 (F:=[]) (k:=0) E (af (F:=[]))) CU (fun ds M Q h=>by obtain⟨_,_,rfl,_⟩:=h;rfl) (fun ds M Q h=>SH.Ce h);have F_1:FnD P w K mg base 2 "count_in" (SH.lR):=aE (a_1.def_ (ps:=sY) X G (fun _ _ _ _ _ _=>us2 fun _ _=>rfl)) CV (nm0 (F:=[SH.da]) (k:=1) E (ad (by decide) (.inl F_0) (af (F:=[])))) CY (fun ds M Q h=>by obtain⟨_,_,rfl,_⟩:=h;rfl) (fun ds M Q h=>SH.Cf rfl h);have F_44:dQ P w K mg base 2 "Have" (aX (c.at 0) (SH.bX c 0)):=l6 mg_44 mk_44 kp_44 a_51 BH (nm0 (F:=[]) (k:=0) E (af (F:=[]))) (fun _ _ _ _ _ _=>us2 fun _ _=>rfl) BJ (oV 0 (n:=2) (fun t ht=>by cases t<;>first | rfl | cases ht) rfl) (fun ds M Q h=>SH.Ai rfl h);have M_52:aO P w K mg base 2 (c.at 0) "carried" (SH.bH c 0):=aR (aG (E.cl 0 (by decide))) a_52 vX (nm0 (F:=[SH.da]) (k:=1) E (ad (by decide) (.inl F_0) (af (F:=[])))) (fun _ _ _ _ _ _=>us3 fun _ _ _=>rfl) vZ (fun ds M Q h=>by obtain⟨_,_,_,_,_,_,rfl,_⟩:=h;rfl) (fun ds M Q h=>SH.u1 rfl rfl h);have M_53:aO P w K mg base 1 (c.at 0) "leaning" (SH.bI c 0):=aR (aG (E.cl 0 (by decide))) a_53 wb (nm0 (F:=[]) (k:=0) E (af (F:=[]))) (fun _ _ _ _ _ _=>us1 fun _=>rfl) wd (fun ds M Q h=>by obtain⟨_,_,_,_,rfl,_⟩:=h;rfl) (fun ds M Q h=>SH.u5 rfl h);have F_45:dQ P w K mg base 2 "Lack" (aX (c.at 1) (SH.bX c 1)):=l6 mg_45 mk_45 kp_45 a_54 BM (nm0 (F:=[]) (k:=0) E (af (F:=[]))) (fun _ _ _ _ _ _=>us2 fun _ _=>rfl) BO (oV 1 (n:=2) (fun t ht=>by cases t<;>first | rfl | cases ht) rfl) (fun ds M Q h=>SH.Aj rfl h);have M_55:aO P w K mg base 2 (c.at 1) "carried" (SH.bH c 1):=aR (aG (E.cl 1 (by decide))) a_55 wg (nm0 (F:=[SH.da]) (k:=1) E (ad (by decide) (.inl F_0) (af (F:=[])))) (fun _ _ _ _ _ _=>us3 fun _ _ _=>rfl) wk (fun ds M Q h=>by obtain⟨_,_,_,_,_,_,rfl,_⟩:=h;rfl) (fun ds M Q h=>SH.u2 rfl rfl h);have M_56:aO P w K mg base 1 (c.at 1) "leaning" (SH.bI c 1):=aR (aG (E.cl 1 (by decide))) a_56 wm (nm0 (F:=[]) (k:=0) E (af (F:=[]))) (fun _ _ _ _ _ _=>us1 fun _=>rfl) wo (fun ds M Q h=>by obtain⟨_,_,_,_,rfl,_⟩:=h;rfl) (fun ds M Q h=>SH.u6 rfl h);have F_46:dQ P w K mg base 2 "Some" (aX (c.at 2) (SH.bX c 2)):=l6 mg_46 mk_46 kp_46 a_57 BQ (nm0 (F:=[]) (k:=0) E (af (F:=[]))) (fun _ _ _ _ _ _=>us3 fun _ _ _=>rfl) BS (oV 2 (n:=3) (fun t ht=>by cases t<;>first | rfl | cases ht) rfl) (fun ds M Q h=>SH.Ak rfl h);have M_58:aO P w K mg base 3 (c.at 2) "carried" (SH.bH c 2):=aR (aG (E.cl 2 (by decide))) a_58 wq (nm0 (F:=[SH.lR]) (k:=2) E (ad (by decide) (.inl F_1) (af (F:=[])))) (fun _ _ _ _ _ _=>us3 fun _ _ _=>rfl) wu (fun ds M Q h=>by obtain⟨_,_,_,_,_,_,rfl,_⟩:=h;rfl) (fun ds M Q h=>SH.u3 rfl rfl h);have M_59:aO P w K mg base 1 (c.at 2) "leaning" (SH.bI c 2):=aR (aG (E.cl 2 (by decide))) a_59 ww (nm0 (F:=[]) (k:=0) E (af (F:=[]))) (fun _ _ _ _ _ _=>us1 fun _=>rfl) wy (fun ds M Q h=>by obtain⟨_,_,_,_,rfl,_⟩:=h;rfl) (fun ds M Q h=>SH.u7 rfl h);have F_47:dQ P w K mg base 2 "Lead" (aX (c.at 3) (SH.bX c 3)):=l6 mg_47 mk_47 kp_47 a_60 BV (nm0 (F:=[]) (k:=0) E (af (F:=[]))) (fun _ _ _ _ _ _=>us3 fun _ _ _=>rfl) BX (oV 3 (n:=3) (fun t ht=>by cases t<;>first | rfl | cases ht) rfl) (fun ds M Q h=>SH.Al rfl h);have M_61:aO P w K mg base 3 (c.at 3) "carried" (SH.bH c 3):=aR (aG (E.cl 3 (by decide))) a_61 wA (nm0 (F:=[SH.da,SH.lR]) (k:=2) E (ad (by decide) (.inl F_0) (ad (by decide) (.inl F_1) (af (F:=[]))))) (fun _ _ _ _ _ _=>us3 fun _ _ _=>rfl) wC (fun ds M Q h=>by obtain⟨_,_,_,_,_,_,rfl,_⟩:=h;rfl) (fun ds M Q h=>SH.u4 rfl rfl rfl h);have M_62:aO P w K mg base 1 (c.at 3) "leaning" (SH.bI c 3):=aR (aG (E.cl 3 (by decide))) a_62 wF (nm0 (F:=[]) (k:=0) E (af (F:=[]))) (fun _ _ _ _ _ _=>us1 fun _=>rfl) wH (fun ds M Q h=>by obtain⟨_,_,_,_,rfl,_⟩:=h;rfl) (fun ds M Q h=>SH.u8 rfl h);have M_64:aO P w K mg base 1 S "how_many" (SH.iR c S):=aR (aG E.sh) a_64 si (nmO (F:=[]) (k:=0) E (af (F:=[]))) (fun _ _ _ _ _ _=>us1 fun _=>rfl) sk (fun ds M Q h=>by obtain⟨_,_,_,rfl,_⟩:=h;rfl) (fun ds M Q h=>SH.Co (fun f hf=>⟨rfl,hf⟩) h);have M_65:aO P w K mg base 1 S "rows_for" (SH.kN c S):=aR (aG E.sh) a_65 sr (nmO (F:=[]) (k:=0) E (af (F:=[]))) (fun _ _ _ _ _ _=>us2 fun _ _=>rfl) sv (fun ds M Q h=>by obtain⟨_,_,_,_,rfl,_⟩:=h;rfl) (fun ds M Q h=>SH.Cp (fun f hf=>⟨rfl,hf⟩) h);have M_66:aO P w K mg base 1 S "rows_helped" (SH.ge c S):=aR (aG E.sh) a_66 oS (nmO (F:=[]) (k:=0) E (af (F:=[]))) (fun _ _ _ _ _ _=>us2 fun _ _=>rfl) oU (fun ds M Q h=>by obtain⟨_,_,_,_,rfl,_⟩:=h;rfl) (fun ds M Q h=>SH.xg (fun f hf=>⟨rfl,hf⟩) h);have M_67:aO P w K mg base 1 S "head_of" (SH.jU c S):=aR (aG E.sh) a_67 ud (nmO (F:=[]) (k:=0) E (af (F:=[]))) (fun _ _ _ _ _ _=>us2 fun _ _=>rfl) uf (fun ds M Q h=>by obtain⟨_,_,_,_,_,rfl,_⟩:=h;rfl) (fun ds M Q h=>SH.EV (fun f hf=>⟨rfl,hf⟩) h);have M_68:aO P w K mg base 1 S "conds_of" (SH.kO c S):=aR (aG E.sh) a_68 sy (nmO (F:=[]) (k:=0) E (af (F:=[]))) (fun _ _ _ _ _ _=>us2 fun _ _=>rfl) sB (fun ds M Q h=>by obtain⟨_,_,_,_,_,rfl,_⟩:=h;rfl) (fun ds M Q h=>SH.Cq (fun f hf=>⟨rfl,hf⟩) h);have M_85:aO P w K mg base 1 Z "true_facts" (SH.ib Z):=aR (aG E.so) a_85 og (nmZO (F:=[]) (k:=0) E (af (F:=[]))) (fun _ _ _ _ _ _=>us1 fun _=>rfl) oi (fun ds M Q h=>by obtain⟨_,_,_,_,rfl,_⟩:=h;rfl) (fun ds M Q h=>SH.yJ (fun f hf=>⟨rfl,hf⟩) h);have M_87:aO P w K mg base 1 Z "open_facts" (SH.ic Z):=aR (aG E.so) a_87 om (nmZO (F:=[]) (k:=0) E (af (F:=[]))) (fun _ _ _ _ _ _=>us1 fun _=>rfl) oo (fun ds M Q h=>by obtain⟨_,_,_,_,rfl,_⟩:=h;rfl) (fun ds M Q h=>SH.yK (fun f hf=>⟨rfl,hf⟩) h);have MC:∀C m sp,metC c C m=some sp->∃k',k'<=3/\aO P w K mg base k' C m sp:=by
  intro C m sp e;unfold metC at e;have at_:∀i,SH.kindAt c C=some i->C=c.at i/\i<4:=by
   intro i hi;unfold SH.kindAt at hi;split at hi
   ·cases hi;exact⟨by assumption,by decide⟩
   ·split at hi
    ·cases hi;exact⟨by assumption,by decide⟩
    ·split at hi
     ·cases hi;exact⟨by assumption,by decide⟩
     ·split at hi
      ·cases hi;exact⟨by assumption,by decide⟩
      ·cases hi
  cases q:SH.kindAt c C with
  |none=>rw[q] at e;cases e
  |some i=>
   rw[q] at e;obtain⟨rfl,hi⟩:=at_ i q;have e:(if m = "carried" then some (SH.bH c i) else if m = "leaning" then some (SH.bI c i) else none)=some sp:=e;have i4:i=0\/i=1\/i=2\/i=3:=by omega
   split at e
   ·rename_i hm
    subst hm;cases e;rcases i4 with rfl | rfl | rfl | rfl
    ·exact⟨_,by decide,M_52⟩
    ·exact⟨_,by decide,M_55⟩
    ·exact⟨_,by decide,M_58⟩
    ·exact⟨_,by decide,M_61⟩
   ·split at e
    ·rename_i hm
     subst hm;cases e;rcases i4 with rfl | rfl | rfl | rfl
     ·exact⟨_,by decide,M_53⟩
     ·exact⟨_,by decide,M_56⟩
     ·exact⟨_,by decide,M_59⟩
     ·exact⟨_,by decide,M_62⟩
    ·cases e
 have MS:∀C m sp,metS c S C m=some sp->∃k',k'<=1/\aO P w K mg base k' C m sp:=by
  intro C m sp e;unfold metS at e;split at e
  ·rename_i hC
   subst hC;split at e
   ·rename_i hm;subst hm;cases e;exact⟨_,by decide,M_64⟩
   ·split at e
    ·rename_i hm;subst hm;cases e;exact⟨_,by decide,M_65⟩
    ·split at e
     ·rename_i hm;subst hm;cases e;exact⟨_,by decide,M_66⟩
     ·split at e
      ·rename_i hm;subst hm;cases e;exact⟨_,by decide,M_67⟩
      ·split at e
       ·rename_i hm;subst hm;cases e;exact⟨_,by decide,M_68⟩
       ·cases e
  ·cases e
 have MZ:∀C m sp,metZ Z C m=some sp->∃k',k'<=1/\aO P w K mg base k' C m sp:=by
  intro C m sp e;unfold metZ at e;split at e
  ·rename_i hC
   subst hC;split at e
   ·rename_i hm;subst hm;cases e;exact⟨_,by decide,M_85⟩
   ·split at e
    ·rename_i hm;subst hm;cases e;exact⟨_,by decide,M_87⟩
    ·cases e
  ·cases e
 have F_2:FnD P w K mg base 2 "members" (SH.bY):=aE (a_2.def_ (ps:=vy) X G (fun _ _ _ _ _ _=>us1 fun _=>rfl)) E9 (nm0 (F:=[SH.da]) (k:=1) E (ad (by decide) (.inl F_0) (af (F:=[])))) Fb (fun ds M Q h=>by obtain⟨_,rfl,_⟩:=h;rfl) (fun ds M Q h=>SH.ER rfl h);have F_3:FnD P w K mg base 1 "set_of" (SH.jT):=aE (a_3.def_ (ps:=yy) X G (fun _ _ _ _ _ _=>us1 fun _=>rfl)) GM (nm0 (F:=[]) (k:=0) E (af (F:=[]))) GO (fun ds M Q h=>by obtain⟨_,_,_,rfl,_⟩:=h;rfl) (fun ds M Q h=>SH.Gr h);have F_4:FnD P w K mg base 4 "all_carried" (SH.jg c):=aE (a_4.def_ (ps:=nK) X G (fun _ _ _ _ _ _=>us3 fun _ _ _=>rfl)) xx (nmC (F:=[]) (k:=3) E (gk (by decide) MC) (af (F:=[]))) xz (fun ds M Q h=>by obtain⟨_,_,_,_,_,rfl,_⟩:=h;rfl) (fun ds M Q h=>SH.xf (BY ap) h);have F_5:FnD P w K mg base 5 "carried_heads" (SH.dE c S):=aE (a_5.def_ (ps:=mq) X G (fun _ _ _ _ _ _=>us4 fun _ _ _ _=>rfl)) t9 (nmS (F:=[SH.jg c]) (k:=4) E (gk (by decide) MS) (ad (by decide) (.inl F_4) (af (F:=[])))) ub (fun ds M Q h=>by obtain⟨_,_,_,_,_,_,_,rfl,_⟩:=h;rfl) (fun ds M Q h=>SH.tZ rfl q0 zl h);have F_6:FnD P w K mg base 2 "helped_rows" (SH.gf c S):=aE (a_6.def_ (ps:=nN) X G (fun _ _ _ _ _ _=>us3 fun _ _ _=>rfl)) xD (nmS (F:=[SH.da]) (k:=1) E (gk (by decide) MS) (ad (by decide) (.inl F_0) (af (F:=[])))) xF (fun ds M Q h=>by obtain⟨_,_,_,_,_,_,_,rfl,_⟩:=h;rfl) (fun ds M Q h=>SH.xi rfl ug q0 h);have F_7:FnD P w K mg base 3 "all_rows" (SH.mH c S):=aE (a_7.def_ (ps:=td) X G (fun _ _ _ _ _ _=>us2 fun _ _=>rfl)) CZ (nmS (F:=[SH.bY]) (k:=2) E (gk (by decide) MS) (ad (by decide) (.inl F_2) (af (F:=[])))) C1 (fun ds M Q h=>by obtain⟨_,_,_,_,rfl,_⟩:=h;rfl) (fun ds M Q h=>SH.Cv rfl zk h);have F_8:FnD P w K mg base 6 "ranked_among" (SH.oJ c S):=aE (a_8.def_ (ps:=m6) X G (fun _ _ _ _ _ _=>us4 fun _ _ _ _=>rfl)) vA (nm0 (F:=[SH.dE c S,SH.gf c S,SH.jT,SH.mH c S,SH.bY]) (k:=5) E (ad (by decide) (.inl F_5) (ad (by decide) (.inl F_6) (ad (by decide) (.inl F_3) (ad (by decide) (.inl F_7) (ad (by decide) (.inl F_2) (af (F:=[])))))))) vC (fun ds M Q h=>by obtain⟨_,_,_,_,_,_,rfl,_⟩:=h;rfl) (fun ds M Q h=>SH.GH rfl rfl rfl rfl rfl h);have F_9:FnD P w K mg base 7 "least_among" (SH.dF c S):=aE (a_9.def_ (ps:=nL) X G (fun _ _ _ _ _ _=>us4 fun _ _ _ _=>rfl)) xA (nm0 (F:=[SH.jT,SH.oJ c S]) (k:=6) E (ad (by decide) (.inl F_3) (ad (by decide) (.inl F_8) (af (F:=[]))))) xC (fun ds M Q h=>by obtain⟨_,_,_,_,_,_,rfl,_⟩:=h;rfl) (fun ds M Q h=>SH.xj rfl rfl h);have F_10:FnD P w K mg base 8 "next_pair" (SH.lK c S):=aE (a_10.def_ (ps:=qB) X G (fun _ _ _ _ _ _=>us5 fun _ _ _ _ _=>rfl)) Bl (nm0 (F:=[SH.dF c S]) (k:=7) E (ad (by decide) (.inl F_9) (af (F:=[])))) Bn (fun ds M Q h=>by obtain⟨_,_,_,_,_,_,_,rfl,_⟩:=h;rfl) (fun ds M Q h=>SH.AJ rfl h);have F_11:FnD P w K mg base 9 "to_and_fro" (SH.lL c S):=aE (a_11.def_ (ps:=pJ) X G (fun _ _ _ _ _ _=>us5 fun _ _ _ _ _=>rfl)) yS (nm0 (F:=[SH.lK c S]) (k:=8) E (ad (by decide) (.inl F_10) (af (F:=[])))) yU (fun ds M Q h=>by obtain⟨_,_,_,_,_,_,_,rfl,_⟩:=h;rfl) (fun ds M Q h=>SH.yI rfl h);have F_12:FnD P w K mg base 1 "all_facts" (SH.lF):=aE (a_12.def_ (ps:=qy) X G (fun _ _ _ _ _ _=>us1 fun _=>rfl)) Bb (nm0 (F:=[]) (k:=0) E (af (F:=[]))) Bd (fun ds M Q h=>by obtain⟨_,rfl,_⟩:=h;rfl) (fun ds M Q h=>SH.Ap h);have F_49:dQ P w K mg base 11 "Sorting" (aX Z (SH.iy c S Z)):=l6 mg_49 mk_49 kp_49 a_79 wK (nmSZ (F:=[SH.lL c S,SH.lF]) (k:=9) E (gk (by decide) MS) (ad (by decide) (.inl F_11) (ad (by decide) (.inl F_12) (af (F:=[]))))) (fun _ _ _ _ _ _=>us3 fun _ _ _=>rfl) wM (fun ds M Q h=>by obtain⟨_,_,_,_,_,rfl,_⟩:=h;rfl) (fun ds M Q h=>SH.vo (fun f hf=>⟨rfl,hf⟩) pS rfl rfl h);have M_104:aO P w K mg base 8 V "least_against" (SH.jY c S V):=aR (aG E.gv) a_104 nn (nmG (T:=fun _ _=>none) (F:=[SH.dF c S]) (k:=7) E E.fv (fun _ _ _ z=>nomatch z) (ad (by decide) (.inl F_9) (af (F:=[])))) (fun _ _ _ _ _ _=>us2 fun _ _=>rfl) nq (fun ds M Q h=>by obtain⟨_,_,_,_,_,_,rfl,_⟩:=h;rfl) (fun ds M Q h=>SH.t6 (fun f hf=>⟨rfl,hf⟩) rfl h);have M_105:aO P w K mg base 9 V "narrowed" (SH.lN c S V):=aR (aG E.gv) a_105 sd (nmG (F:=[]) (k:=8) E E.fl (mt1 (by decide) M_104) (af (F:=[]))) (fun _ _ _ _ _ _=>us3 fun _ _ _=>rfl) sf (fun ds M Q h=>by obtain⟨_,_,_,_,_,_,rfl,_⟩:=h;rfl) (fun ds M Q h=>SH.CH lU h);have M_106:∀d,aO P w K mg base (10+d) V "told_node" (SH.lO c S V d):=by
  intro d;induction d with
  |zero=>exact aR (aG E.gv) a_106 kX (nmG (T:=fun _ _=>none) (F:=[SH.bY]) (k:=9) E E.fl (fun _ _ _ z=>nomatch z) (ad (by decide) (.inl F_2) (af (F:=[])))) (fun _ _ _ _ _ _=>us3 fun _ _ _=>rfl) kY (fun ds M Q h=>by obtain⟨_,_,_,_,_,_,rfl,_⟩:=h;rfl) (fun ds M Q h=>by obtain⟨_,_,_,_,_,_,_,_,_,_,z,_⟩:=h;exact absurd z (Nat.not_lt_zero _))
  |succ d ih=>exact aR (k:=10+d) (aG E.gv) a_106 kX (nmG (F:=[SH.bY]) (k:=10+d) E E.fl (mt2 (by omega) (Nat.le_refl _) M_105 ih) (ad (by omega) (.inl F_2) (af (F:=[])))) (fun _ _ _ _ _ _=>us3 fun _ _ _=>rfl) kY (fun ds M Q h=>by obtain⟨_,_,_,_,_,_,rfl,_⟩:=h;rfl) (fun ds M Q h=>SH.AN Iu (Iv (by decide +kernel)) rfl h)
 have M_107:aO P w K mg base 24 V "root_node" (SH.oM c S V 13):=aR (aG E.gv) a_107 qQ (nmG (F:=[]) (k:=23) E E.fv (mt1 (by decide) (M_106 13)) (af (F:=[]))) (fun _ _ _ _ _ _=>us1 fun _=>rfl) qS (fun ds M Q h=>by obtain⟨_,_,_,_,_,rfl,_⟩:=h;rfl) (fun ds M Q h=>SH.AO (fun f hf=>⟨rfl,hf⟩) lU h);have F_50:dQ P w K mg base 13 "Grove" (aX V (SH.eO c S V)):=l6 mg_50 mk_50 kp_50 a_95 zd (nmG (F:=[SH.bY,aX Z (SH.iy c S Z)]) (k:=11) E E.fv (gk (by decide) MZ) (ad (by decide) (.inl F_2) (ad (by decide) F_49 (af (F:=[]))))) (fun _ _ _ _ _ _=>us3 fun _ _ _=>rfl) zf (fun ds M Q h=>by obtain⟨_,_,_,_,_,rfl,_⟩:=h;rfl) (fun ds M Q h=>SH.yL (j:=3) rfl (fun f hf=>⟨rfl,hf⟩) wN wO rfl rfl h);have F_13:FnD P w K mg base 1 "is_whole" (SH.gt):=aE (a_13.def_ (ps:=sU) X G (fun _ _ _ _ _ _=>us1 fun _=>rfl)) CK (nm0 (F:=[]) (k:=0) E (af (F:=[]))) CM (fun ds M Q h=>by obtain⟨_,rfl,_⟩:=h;rfl) (fun ds M Q h=>SH.Cg h);have F_14:FnD P w K mg base 2 "is_below" (SH.cO):=aE (a_14.def_ (ps:=sV) X G (fun _ _ _ _ _ _=>us2 fun _ _=>rfl)) CN (nm0 (F:=[SH.gt]) (k:=1) E (ad (by decide) (.inl F_13) (af (F:=[])))) CP (fun ds M Q h=>by obtain⟨_,_,rfl,_⟩:=h;rfl) (fun ds M Q h=>SH.Ch rfl h);have M_108:aO P w K mg base 3 V "is_one_of" (SH.xr c S V):=aR (aG E.gv) a_108 qW (nmG (F:=[SH.cO,SH.da]) (k:=2) E E.fv (gk (by decide) MS) (ad (by decide) (.inl F_14) (ad (by decide) (.inl F_0) (af (F:=[]))))) (fun _ _ _ _ _ _=>us3 fun _ _ _=>rfl) qY (fun ds M Q h=>by obtain⟨_,_,_,_,_,_,_,rfl,_⟩:=h;rfl) (fun ds M Q h=>SH.AV (fun f hf=>⟨rfl,hf⟩) pS rfl rfl h);have M_109:∀d,aO P w K mg base (11+d) V "node_holds" (SH.kt c S V d):=by
  intro d;induction d with
  |zero=>exact aR (aG E.gv) a_109 jO (nmG (T:=fun _ _=>none) (F:=[SH.gt]) (k:=10) E E.fl (fun _ _ _ z=>nomatch z) (ad (by decide) (.inl F_13) (af (F:=[])))) (fun _ _ _ _ _ _=>us4 fun _ _ _ _=>rfl) jP (fun ds M Q h=>by obtain⟨_,_,_,_,_,_,_,rfl,_⟩:=h;rfl) (fun ds M Q h=>by obtain⟨_,_,_,_,_,_,_,_,_,_,_,_,z,_⟩:=h;exact absurd z (Nat.not_lt_zero _))
  |succ d ih=>exact aR (k:=11+d) (aG E.gv) a_109 jO (nmG (F:=[SH.gt]) (k:=11+d) E E.fl (mtU (by omega) M_105 (mtU (by omega) M_108 (mt1 (Nat.le_refl _) ih))) (ad (by omega) (.inl F_13) (af (F:=[])))) (fun _ _ _ _ _ _=>us4 fun _ _ _ _=>rfl) jP (fun ds M Q h=>by obtain⟨_,_,_,_,_,_,_,rfl,_⟩:=h;rfl) (fun ds M Q h=>SH.yP DY ((xN (by decide +kernel)).trans DY) ((xN (by decide +kernel)).trans ((xN (by decide +kernel)).trans lU)) rfl h)
 have M_110:aO P w K mg base 25 V "root_holds" (SH.nj c S V 13):=aR (aG E.gv) a_110 pU (nmG (F:=[]) (k:=24) E E.fv (mt1 (by decide) (M_109 13)) (af (F:=[]))) (fun _ _ _ _ _ _=>us2 fun _ _=>rfl) pX (fun ds M Q h=>by obtain⟨_,_,_,_,_,_,rfl,_⟩:=h;rfl) (fun ds M Q h=>SH.yQ (fun f hf=>⟨rfl,hf⟩) lU h);have F_15:FnD P w K mg base 26 "tree_holds" (SH.ku c S):=aE (a_15.def_ (ps:=pL) X G (fun _ _ _ _ _ _=>us3 fun _ _ _=>rfl)) yV (nmG (F:=[aX V (SH.eO c S V)]) (k:=25) E E.fl (mt1 (by decide) M_110) (ad (by decide) F_50 (af (F:=[])))) yX (fun ds M Q h=>by obtain⟨_,_,_,_,_,_,_,rfl,_⟩:=h;rfl) (fun ds M Q h=>SH.yR rfl lU rfl h);have F_16:FnD P w K mg base 25 "tree_of" (SH.jZ c S):=aE (a_16.def_ (ps:=vE) X G (fun _ _ _ _ _ _=>us2 fun _ _=>rfl)) Fc (nmG (F:=[aX V (SH.eO c S V)]) (k:=24) E E.fl (mt1 (by decide) M_107) (ad (by decide) F_50 (af (F:=[])))) Fe (fun ds M Q h=>by obtain⟨_,_,_,_,rfl,_⟩:=h;rfl) (fun ds M Q h=>SH.E6 rfl lU rfl h);have F_17:FnD P w K mg base 1 "rows_by_help" (SH.ji):=aE (a_17.def_ (ps:=na) X G (fun _ _ _ _ _ _=>us2 fun _ _=>rfl)) vL (nm0 (F:=[]) (k:=0) E (af (F:=[]))) vN (fun ds M Q h=>by obtain⟨_,_,_,_,rfl,_⟩:=h;rfl) (fun ds M Q h=>SH.vf h);have F_18:FnD P w K mg base 4 "row_leanings" (SH.er c):=aE (a_18.def_ (ps:=m8) X G (fun _ _ _ _ _ _=>us1 fun _=>rfl)) vF (nmC (F:=[]) (k:=3) E (gk (by decide) MC) (af (F:=[]))) vH (fun ds M Q h=>by obtain⟨_,_,rfl,_⟩:=h;rfl) (fun ds M Q h=>SH.vb (BZ ap) h);have F_19:FnD P w K mg base 1 "rows_by_head" (SH.jh):=aE (a_19.def_ (ps:=m9) X G (fun _ _ _ _ _ _=>us2 fun _ _=>rfl)) vI (nm0 (F:=[]) (k:=0) E (af (F:=[]))) vK (fun ds M Q h=>by obtain⟨_,_,rfl,_⟩:=h;rfl) (fun ds M Q h=>SH.ve h);have F_20:FnD P w K mg base 3 "made_cond" (SH.va c):=aE (a_20.def_ (ps:=qz) X G (fun _ _ _ _ _ _=>us1 fun _=>rfl)) Bf (nm0 (F:=[aX (c.at 3) (SH.bX c 3),aX (c.at 2) (SH.bX c 2),aX (c.at 1) (SH.bX c 1),aX (c.at 0) (SH.bX c 0)]) (k:=2) E (ad (by decide) F_47 (ad (by decide) F_46 (ad (by decide) F_45 (ad (by decide) F_44 (af (F:=[]))))))) Bh (fun ds M Q h=>by obtain⟨_,rfl,_⟩:=h;rfl) (fun ds M Q h=>SH.Kg (c:=c) rfl h);have F_21:FnD P w K mg base 3 "is_listing" (SH.mG):=aE (a_21.def_ (ps:=pM) X G (fun _ _ _ _ _ _=>us2 fun _ _=>rfl)) yY (nm0 (F:=[SH.cO]) (k:=2) E (ad (by decide) (.inl F_14) (af (F:=[])))) y7 (fun ds M Q h=>by obtain⟨_,_,rfl,_⟩:=h;rfl) (fun ds M Q h=>SH.yG (j:=2) rfl rfl h);have F_22:FnD P w K mg base 2 "is_number" (SH.oB):=aE (a_22.def_ (ps:=qE) X G (fun _ _ _ _ _ _=>us1 fun _=>rfl)) Bs (nm0 (F:=[SH.gt]) (k:=1) E (ad (by decide) (.inl F_13) (af (F:=[])))) Bu (fun ds M Q h=>by obtain⟨_,rfl,_⟩:=h;rfl) (fun ds M Q h=>SH.At (j:=1) rfl rfl h);have F_23:FnD P w K mg base 4 "is_cond" (SH.oC):=aE (a_23.def_ (ps:=vO) X G (fun _ _ _ _ _ _=>us2 fun _ _=>rfl)) Ff (nm0 (F:=[SH.mG,SH.cO,SH.oB]) (k:=3) E (ad (by decide) (.inl F_21) (ad (by decide) (.inl F_14) (ad (by decide) (.inl F_22) (af (F:=[])))))) Fh (fun ds M Q h=>by obtain⟨_,_,rfl,_⟩:=h;rfl) (fun ds M Q h=>SH.ES rfl rfl rfl h);have F_24:FnD P w K mg base 5 "is_row" (SH.rO):=aE (a_24.def_ (ps:=yB) X G (fun _ _ _ _ _ _=>us2 fun _ _=>rfl)) GP (nm0 (F:=[SH.oC,SH.cO]) (k:=4) E (ad (by decide) (.inl F_23) (ad (by decide) (.inl F_14) (af (F:=[]))))) GR (fun ds M Q h=>by obtain⟨_,_,_,_,rfl,_⟩:=h;rfl) (fun ds M Q h=>SH.Gu (j:=0) rfl rfl rfl h);have F_48:dQ P w K mg base 7 "Sheet" (aX S (SH.eL c S)):=l6 mg_48 mk_48 kp_48 a_63 zh (nmO (F:=[SH.ji,SH.er c,SH.jh,SH.va c,SH.rO,SH.cO]) (k:=5) E (ad (by decide) (.inl F_17) (ad (by decide) (.inl F_18) (ad (by decide) (.inl F_19) (ad (by decide) (.inl F_20) (ad (by decide) (.inl F_24) (ad (by decide) (.inl F_14) (af (F:=[]))))))))) (fun _ _ _ _ _ _=>us3 fun _ _ _=>rfl) zj (fun ds M Q h=>by obtain⟨_,_,_,_,_,rfl,_⟩:=h;rfl) (fun ds M Q h=>SH.yH (j:=4) (l:=5) (fun f hf=>⟨rfl,hf⟩) rfl rfl rfl rfl rfl rfl rfl rfl h);have F_25:∀d,FnD P w K mg base (1+d) "_law_plain" (SH.d3 d):=by
  intro d;induction d with
  |zero=>exact aE (k:=0) (a_25.def_ (ps:=jD) X G (fun _ _ _ _ _ _=>us1 fun _=>rfl)) qG (nm0 (F:=[(fun _ _ _=>False)]) (k:=0) E (ad (by omega) (.inl (q9 (k:=0) (a_25.def_ (ps:=jD) X G (fun _ _ _ _ _ _=>us1 fun _=>rfl)))) (af (F:=[])))) qH (fun ds M Q h=>by obtain⟨_,rfl,_⟩:=h;rfl) (fun ds M Q h=>SH.E7 h)
  |succ d ih=>exact aE (k:=1+d) (a_25.def_ (ps:=jD) X G (fun _ _ _ _ _ _=>us1 fun _=>rfl)) qG (nm0 (F:=[SH.d3 d]) (k:=1+d) E (ad (Nat.le_refl _) (.inl ih) (af (F:=[])))) qH (fun ds M Q h=>by obtain⟨_,rfl,_⟩:=h;rfl) (fun ds M Q h=>SH.E8 rfl h)
 have F_26:FnD P w K mg base 16 "_law_same" (SH.rT):=aE (a_26.def_ (ps:=tu) X G (fun _ _ _ _ _ _=>us2 fun _ _=>rfl)) C5 (nm0 (F:=[SH.d3 14]) (k:=15) E (ad (by decide) (.inl (F_25 14)) (af (F:=[])))) C9 (fun ds M Q h=>by obtain⟨_,_,_,rfl,_⟩:=h;rfl) (fun ds M Q h=>SH.GL rfl h);have F_27:∀d,FnD P w K mg base (d+1) "tree_worlds" (SH.dH d):=by
  intro d;induction d with
  |zero=>exact aE (a_27.def_ (ps:=gG) X G (fun _ _ _ _ _ _=>us1 fun _=>rfl)) nO (nm0 (F:=[(fun _ _ _=>False)]) (k:=0) E (ad (Nat.le_refl _) (.inl (q9 (k:=0) (a_27.def_ (ps:=gG) X G (fun _ _ _ _ _ _=>us1 fun _=>rfl)))) (af (F:=[])))) nP (fun ds M Q h=>by obtain⟨_,rfl,_⟩:=h;rfl) (fun ds M Q h=>by obtain⟨_,_,z,_⟩:=h;exact absurd z (Nat.not_lt_zero _))
  |succ d ih=>exact aE (a_27.def_ (ps:=gG) X G (fun _ _ _ _ _ _=>us1 fun _=>rfl)) nO (nm0 (F:=[SH.dH d]) (k:=d+1) E (ad (Nat.le_refl _) (.inl ih) (af (F:=[])))) nP (fun ds M Q h=>by obtain⟨_,rfl,_⟩:=h;rfl) (fun ds M Q h=>SH.xq rfl h)
 have F_28:FnD P w K mg base 26 "worlds_of" (SH.lP c S):=aE (a_28.def_ (ps:=qC) X G (fun _ _ _ _ _ _=>us2 fun _ _=>rfl)) Bo (nm0 (F:=[SH.dH 13,SH.jZ c S]) (k:=25) E (ad (by decide) (.inl (F_27 13)) (ad (by decide) (.inl F_16) (af (F:=[]))))) Bq (fun ds M Q h=>by obtain⟨_,_,_,_,rfl,_⟩:=h;rfl) (fun ds M Q h=>SH.AQ rfl rfl h);have F_29:FnD P w K mg base 1 "_law_facts" (SH.nI):=aE (a_29.def_ (ps:=qL) X G (fun _ _ _ _ _ _=>us2 fun _ _=>rfl)) BC (nm0 (F:=[]) (k:=0) E (af (F:=[]))) BE (fun ds M Q h=>by obtain⟨_,_,rfl,_⟩:=h;rfl) (fun ds M Q h=>SH.AT h);have F_30:FnD P w K mg base 1 "_law_carried" (SH.jm):=aE (a_30.def_ (ps:=nV) X G (fun _ _ _ _ _ _=>us3 fun _ _ _=>rfl)) xK (nm0 (F:=[]) (k:=0) E (af (F:=[]))) xM (fun ds M Q h=>by obtain⟨_,_,_,rfl,_⟩:=h;rfl) (fun ds M Q h=>SH.xk h);have F_31:FnD P w K mg base 2 "_law_met" (SH.oK):=aE (a_31.def_ (ps:=vU) X G (fun _ _ _ _ _ _=>us3 fun _ _ _=>rfl)) Fi (nm0 (F:=[SH.jm]) (k:=1) E (ad (by decide) (.inl F_30) (af (F:=[])))) Fl (fun ds M Q h=>by obtain⟨_,_,_,_,rfl,_⟩:=h;rfl) (fun ds M Q h=>SH.E3 rfl h);have F_32:FnD P w K mg base 3 "_law_least" (SH.gF):=aE (a_32.def_ (ps:=qJ) X G (fun _ _ _ _ _ _=>us3 fun _ _ _=>rfl)) Bz (nm0 (F:=[SH.oK]) (k:=2) E (ad (by decide) (.inl F_31) (af (F:=[])))) BB (fun ds M Q h=>by obtain⟨_,_,_,_,_,_,rfl,_⟩:=h;rfl) (fun ds M Q h=>SH.AR rfl h);have F_33:FnD P w K mg base 4 "_law_narrow" (SH.ig):=aE (a_33.def_ (ps:=pP) X G (fun _ _ _ _ _ _=>us4 fun _ _ _ _=>rfl)) y8 (nm0 (F:=[SH.gF]) (k:=3) E (ad (by decide) (.inl F_32) (af (F:=[])))) za (fun ds M Q h=>by obtain⟨_,_,_,_,_,_,_,_,rfl,_⟩:=h;rfl) (fun ds M Q h=>SH.yN rfl h);have F_34:∀d,FnD P w K mg base (5+d) "_law_walked" (SH.j0 d):=by
  intro d;induction d with
  |zero=>exact aE (k:=4) (a_34.def_ (ps:=iC) X G (fun _ _ _ _ _ _=>us6 fun _ _ _ _ _ _=>rfl)) pQ (nm0 (F:=[(fun _ _ _=>False),SH.nI,SH.ig]) (k:=4) E (ad (by omega) (.inl (q9 (k:=0) (a_34.def_ (ps:=iC) X G (fun _ _ _ _ _ _=>us6 fun _ _ _ _ _ _=>rfl)))) (ad (by omega) (.inl F_29) (ad (by omega) (.inl F_33) (af (F:=[])))))) pR (fun ds M Q h=>by obtain⟨_,_,_,_,_,_,_,_,_,rfl,_⟩:=h;rfl) (fun ds M Q h=>by obtain⟨_,_,_,_,_,_,_,_,_,_,_,_,_,_,_,_,_,_,_,z,_⟩:=h;exact absurd z (Nat.not_lt_zero _))
  |succ d ih=>exact aE (k:=5+d) (a_34.def_ (ps:=iC) X G (fun _ _ _ _ _ _=>us6 fun _ _ _ _ _ _=>rfl)) pQ (nm0 (F:=[SH.j0 d,SH.nI,SH.ig]) (k:=5+d) E (ad (Nat.le_refl _) (.inl ih) (ad (by omega) (.inl F_29) (ad (by omega) (.inl F_33) (af (F:=[])))))) pR (fun ds M Q h=>by obtain⟨_,_,_,_,_,_,_,_,_,rfl,_⟩:=h;rfl) (fun ds M Q h=>SH.yO rfl rfl rfl h)
 have F_35:FnD P w K mg base 4 "_law_root" (SH.mS):=aE (a_35.def_ (ps:=tF) X G (fun _ _ _ _ _ _=>us2 fun _ _=>rfl)) Dj (nm0 (F:=[SH.gF]) (k:=3) E (ad (by decide) (.inl F_32) (af (F:=[])))) Dl (fun ds M Q h=>by obtain⟨_,_,_,_,_,rfl,_⟩:=h;rfl) (fun ds M Q h=>SH.CJ rfl h);have F_36:FnD P w K mg base 8 "_law_sheet" (SH.lJ c S):=aE (a_36.def_ (ps:=qI) X G (fun _ _ _ _ _ _=>us2 fun _ _=>rfl)) Bw (nm0 (F:=[aX S (SH.eL c S)]) (k:=7) E (ad (by decide) F_48 (af (F:=[])))) By (fun ds M Q h=>by obtain⟨_,_,_,_,rfl,_⟩:=h;rfl) (fun ds M Q h=>SH.AH rfl h);have F_37:FnD P w K mg base 1 "_law_cell_at" (SH.c7):=aE (a_37.def_ (ps:=nT) X G (fun _ _ _ _ _ _=>us2 fun _ _=>rfl)) xH (nm0 (F:=[]) (k:=0) E (af (F:=[]))) xJ (fun ds M Q h=>by obtain⟨_,_,_,rfl,_⟩:=h;rfl) (fun ds M Q h=>SH.E1 h);have F_38:FnD P w K mg base 2 "_law_told" (SH.mJ):=aE (a_38.def_ (ps:=tz) X G (fun _ _ _ _ _ _=>us2 fun _ _=>rfl)) Dg (nm0 (F:=[SH.c7]) (k:=1) E (ad (by decide) (.inl F_37) (af (F:=[])))) Di (fun ds M Q h=>by obtain⟨_,_,_,rfl,_⟩:=h;rfl) (fun ds M Q h=>SH.CD rfl h);have F_39:FnD P w K mg base 1 "_law_draw" (SH.ny):=aE (a_39.def_ (ps:=tq) X G (fun _ _ _ _ _ _=>us2 fun _ _=>rfl)) C2 (nm0 (F:=[]) (k:=0) E (af (F:=[]))) C4 (fun ds M Q h=>by obtain⟨_,_,_,_,rfl,_⟩:=h;rfl) (fun ds M Q h=>SH.Kk h);have F_40:FnD P w K mg base 2 "_law_cond" (SH.kT):=aE (a_40.def_ (ps:=tw) X G (fun _ _ _ _ _ _=>us2 fun _ _=>rfl)) Da (nm0 (F:=[SH.ny]) (k:=1) E (ad (by decide) (.inl F_39) (af (F:=[])))) Dc (fun ds M Q h=>by obtain⟨_,_,_,_,rfl,_⟩:=h;rfl) (fun ds M Q h=>SH.CB rfl h);have F_41:FnD P w K mg base 3 "_law_rows" (SH.mI):=aE (a_41.def_ (ps:=tx) X G (fun _ _ _ _ _ _=>us4 fun _ _ _ _=>rfl)) Dd (nm0 (F:=[SH.ny,SH.kT,SH.c7]) (k:=2) E (ad (by decide) (.inl F_39) (ad (by decide) (.inl F_40) (ad (by decide) (.inl F_37) (af (F:=[])))))) Df (fun ds M Q h=>by obtain⟨_,_,_,_,_,rfl,_⟩:=h;rfl) (fun ds M Q h=>SH.CC rfl rfl rfl h);have F_42:FnD P w K mg base 4 "_law_with_pairs" (SH.ko):=aE (a_42.def_ (ps:=ly) X G (fun _ _ _ _ _ _=>us4 fun _ _ _ _=>rfl)) rY (nm0 (F:=[SH.mI,SH.c7]) (k:=3) E (ad (by decide) (.inl F_41) (ad (by decide) (.inl F_37) (af (F:=[]))))) r0 (fun ds M Q h=>by obtain⟨_,_,_,_,_,rfl,_⟩:=h;rfl) (fun ds M Q h=>SH.yM rfl rfl h);exact Ad (a_43.fun_) L5 (nm0 (F:=[SH.ku c S,SH.jZ c S,aX S (SH.eL c S),SH.d3 14,SH.rT,SH.lP c S,SH.j0 13,SH.mS,SH.lJ c S,SH.mJ,SH.ko,SH.c7]) (k:=26) E (ad (by decide) (.inl F_15) (ad (by decide) (.inl F_16) (ad (by decide) F_48 (ad (by decide) (.inl (F_25 14)) (ad (by decide) (.inl F_26) (ad (by decide) (.inl F_28) (ad (by decide) (.inl (F_34 13)) (ad (by decide) (.inl F_35) (ad (by decide) (.inl F_36) (ad (by decide) (.inl F_38) (ad (by decide) (.inl F_42) (ad (by decide) (.inl F_37) (af (F:=[]))))))))))))))) L7 (fun ds M Q h=>by obtain⟨_,_,rfl,_⟩:=h;rfl) (fun ds M Q h=>SH.L3 rfl rfl rfl rfl rfl rfl rfl rfl rfl rfl rfl rfl h)
end
end K62
namespace K62
open PySem PySem.Spec PyProof.Rows L2 DD
theorem Iw{a b d e:Addr}(h:(decide (a≠b)&&decide (a≠d)&&decide (a≠e)&&decide (b≠d)&&decide (b≠e)&&decide (d≠e))=true):SH.CA.apart ⟨a,b,d,e⟩:=by
 simp only[Bool.and_eq_true,decide_eq_true_eq] at h;obtain⟨⟨⟨⟨⟨h1,h2⟩,h3⟩,h4⟩,h5⟩,h6⟩:=h;intro k hk;have i4:k=0\/k=1\/k=2\/k=3:=by omega
 rcases i4 with rfl | rfl | rfl | rfl
 ·show(if a=a then some 0 else if a=b then some 1 else if a=d then some 2 else if a=e then some 3 else none)=some 0
  rw[if_pos rfl]
 ·show(if b=a then some 0 else if b=b then some 1 else if b=d then some 2 else if b=e then some 3 else none)=some 1
  rw[if_neg (fun z=>h1 z.symm),if_pos rfl]
 ·show(if d=a then some 0 else if d=b then some 1 else if d=d then some 2 else if d=e then some 3 else none)=some 2
  rw[if_neg (fun z=>h2 z.symm),if_neg (fun z=>h4 z.symm),if_pos rfl]
 ·show(if e=a then some 0 else if e=b then some 1 else if e=d then some 2 else if e=e then some 3 else none)=some 3
  rw[if_neg (fun z=>h3 z.symm),if_neg (fun z=>h5 z.symm),if_neg (fun z=>h6 z.symm),if_pos rfl]
theorem all4{p:Nat->Prop}(h0:p 0)(h1:p 1)(h2:p 2)(h3:p 3):∀i,i<4->p i:=by
 intro i hi;have i4:i=0\/i=1\/i=2\/i=3:=by omega
 rcases i4 with rfl | rfl | rfl | rfl<;>assumption
theorem Ma:zy 63 SH.zC:=fun a ns hl=>⟨a,ns,rfl,by unfold rK;rw[if_pos rfl],hl,fun _=>rfl⟩
theorem Mb:IK SH.zC:=by
 intro l w K h mg fa cH cL cS cD S Z V X G hfa ap gl bl n_44 k_44 n_45 k_45 n_46 k_46 n_47 k_47 n_48 k_48 n_49 k_49 n_50 k_50 a_0 a_1 a_2 a_3 a_4 a_5 a_6 a_7 a_8 a_9 a_10 a_11 a_12 a_13 a_14 a_15 a_16 a_17 a_18 a_19 a_20 a_21 a_22 a_23 a_24 a_25 a_26 a_27 a_28 a_29 a_30 a_31 a_32 a_33 a_34 a_35 a_36 a_37 a_38 a_39 a_40 a_41 a_42 f_43 d_43 a_43 a_51 a_52 a_53 a_54 a_55 a_56 a_57 a_58 a_59 a_60 a_61 a_62 a_63 a_64 a_65 a_66 a_67 a_68 a_79 a_85 a_87 a_95 a_104 a_105 a_106 a_107 a_108 a_109 a_110;have y_44:=k_44;simp only[Bool.and_eq_true] at y_44;have y_45:=k_45;simp only[Bool.and_eq_true] at y_45;have y_46:=k_46;simp only[Bool.and_eq_true] at y_46;have y_47:=k_47;simp only[Bool.and_eq_true] at y_47;have y_48:=k_48;simp only[Bool.and_eq_true] at y_48;have y_49:=k_49;simp only[Bool.and_eq_true] at y_49;have y_50:=k_50;simp only[Bool.and_eq_true] at y_50;have E:Env0 K mg ⟨cH,cL,cS,cD⟩ S Z V:=⟨uX X G gl,Gq X G bl,all4 y_44.1.1 y_45.1.1 y_46.1.1 y_47.1.1,y_48.1.1,y_49.1.1,y_50.1.1⟩;have bL:∀(s:Shared) (v:Value),BindsTo s d_43 ⟨[v],[]⟩ [("_law_script",v)]:=by
  obtain⟨oc,od,an,osl,kV,doc,pm,cdv,ct,a,rfl,l,c,k⟩:=a_43.ex;exact fun s v=>.of_eq rfl
 have FL:=a_43.def_ (ps:=["_law_script"]) X G fun _ _ _ _ _ _=>us1 fun _=>rfl
 have e:=hfa.symm.trans FL.mgf;cases e;exact⟨d_43,bL,fun base _ _=>L9 (c:=⟨cH,cL,cS,cD⟩) (S:=S) (Z:=Z) (V:=V) E (Iw ap) X G a_0 a_1 a_2 a_3 a_4 a_5 a_6 a_7 a_8 a_9 a_10 a_11 a_12 a_13 a_14 a_15 a_16 a_17 a_18 a_19 a_20 a_21 a_22 a_23 a_24 a_25 a_26 a_27 a_28 a_29 a_30 a_31 a_32 a_33 a_34 a_35 a_36 a_37 a_38 a_39 a_40 a_41 a_42 a_43 (PySem.W.mg_of X G n_44) y_44.1.2 y_44.2 a_51 a_52 a_53 (PySem.W.mg_of X G n_45) y_45.1.2 y_45.2 a_54 a_55 a_56 (PySem.W.mg_of X G n_46) y_46.1.2 y_46.2 a_57 a_58 a_59 (PySem.W.mg_of X G n_47) y_47.1.2 y_47.2 a_60 a_61 a_62 (PySem.W.mg_of X G n_48) y_48.1.2 y_48.2 a_63 a_64 a_65 a_66 a_67 a_68 (PySem.W.mg_of X G n_49) y_49.1.2 y_49.2 a_79 a_85 a_87 (PySem.W.mg_of X G n_50) y_50.1.2 y_50.2 a_95 a_104 a_105 a_106 a_107 a_108 a_109 a_110⟩
end K62
open PySem PySem.W PyProof.Rows L2 DD
theorem PySem.Challenge.cw_notring_k62_a_tree_of_worlds_holds : PySem.Challenge.rw_notring_k62_a_tree_of_worlds.Holds := by
  exact K62.over K62.Ma K62.Mb
#print axioms PySem.Challenge.cw_notring_k62_a_tree_of_worlds_holds
