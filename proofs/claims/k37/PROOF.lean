
import PyProof.Rows.All
import Wide.All
import OpenK.AllK
import Wide.FinOn
import Lean
import PyProof.EqAt
import PyProof.EqKinds
import PyProof.TupleCall
import PySem.Challenge.RW_stonewalker_k37_no_stone_there
local macro_rules
 | `(tactic| omega) => `(tactic| lia)
set_option Elab.async false
set_option linter.all false
set_option maxRecDepth 100000
noncomputable section
namespace L2
open PySem PySem.Spec PyProof.Rows
abbrev Key:=Sum Int Str
def kK2:Key->Value->Bool
 | .inl k,v=>Value.isInt k v
 | .inr x,v=>Value.isStrOf x v
def keyH (w:World):Key->Int
 | .inl k=>hashInt k
 | .inr x=>hashStr w x
theorem jJ1:∀ {k:Key} {v:Value},kK2 k v=true->(∃i t,k=Sum.inl i/\v=Value.int i t)\/(∃x t,k=Sum.inr x/\v=Value.str x t)
 | .inl i,v,h=>by
  obtain⟨t,e⟩:=Value.isInt_shape (k:=i) (v:=v) h
  exact .inl ⟨i,t,rfl,e⟩
 | .inr x,v,h=>by
  obtain⟨t,e⟩:=Value.isStrOf_shape (x:=x) (v:=v) h
  exact .inr ⟨x,t,rfl,e⟩
theorem kZe (i:Int) (t:Tok):kK2 (.inl i) (.int i t)=true:=by simp[kK2,Value.isInt]
theorem kZd (x:Str) (t:Tok):kK2 (.inr x) (.str x t)=true:=by simp[kK2,Value.isStrOf]
theorem key_ll (a b:Int):decide ((Sum.inl a:Key)=Sum.inl b)=(a == b):=by
 by_cases e:a=b
 ·subst e;simp
 ·have h:¬ (Sum.inl a:Key)=Sum.inl b:=fun q=>e (Sum.inl.inj q)
  rw[decide_eq_false h]
  exact (beq_eq_false_iff_ne.mpr e).symm
theorem key_rr (a b:Str):decide ((Sum.inr a:Key)=Sum.inr b)=decide (a=b):=by
 by_cases e:a=b
 ·subst e;simp
 ·have h:¬ (Sum.inr a:Key)=Sum.inr b:=fun q=>e (Sum.inr.inj q)
  rw[decide_eq_false h,decide_eq_false e]
theorem key_lr (a:Int) (b:Str):decide ((Sum.inl a:Key)=Sum.inr b)=false:=decide_eq_false (fun q=>nomatch q)
theorem key_rl (a:Str) (b:Int):decide ((Sum.inr a:Key)=Sum.inl b)=false:=decide_eq_false (fun q=>nomatch q)
noncomputable def jJ6 (prog:Program) (w:World):PySem.KeyKind prog w Key where
 is:=kK2
 hash:=keyH w
 inj:=fun v a b ha hb=>by
  rcases jJ1 ha with ⟨i,t,rfl,rfl⟩ | ⟨x,t,rfl,rfl⟩
  ·rcases jJ1 hb with ⟨j,u,rfl,e⟩ | ⟨y,u,rfl,e⟩
   ·injection e with e1 _;rw[e1]
   ·exact nomatch e
  ·rcases jJ1 hb with ⟨j,u,rfl,e⟩ | ⟨y,u,rfl,e⟩
   ·exact nomatch e
   ·injection e with e1 _;rw[e1]
 byValue:=fun k v h=>by
  rcases jJ1 h with ⟨i,t,rfl,rfl⟩ | ⟨x,t,rfl,rfl⟩<;>rfl
 pyHash:=fun hv h=>by
  rcases jJ1 hv with ⟨i,t,rfl,rfl⟩ | ⟨x,t,rfl,rfl⟩
  ·exact wpAny_pyHash_int h
  ·exact wpAny_pyHash_str h
 eqBool:=fun hu hv h=>by
  rcases jJ1 hu with ⟨i,t,rfl,rfl⟩ | ⟨x,t,rfl,rfl⟩
  ·rcases jJ1 hv with ⟨j,u,rfl,rfl⟩ | ⟨y,u,rfl,rfl⟩
   ·rw[key_ll] at h;exact wpAny_eqBool_int h
   ·rw[key_lr] at h;exact SeqAt.EqAt.int_str i t y u _ _ _ _ h
  ·rcases jJ1 hv with ⟨j,u,rfl,rfl⟩ | ⟨y,u,rfl,rfl⟩
   ·rw[key_rl] at h;exact SeqAt.EqAt.str_int x t j u _ _ _ _ h
   ·rw[key_rr] at h;exact wpAny_eqBool_str h
 «strs» :=fun k x t v h=>by
  rcases jJ1 h with ⟨i,u,rfl,e⟩ | ⟨y,u,rfl,e⟩
  ·exact nomatch e
  ·injection e with e1 _
   subst e1
   cases v<;>rfl
theorem jZf (prog:Program) (w:World) (i:Int) (t:Tok):(jJ6 prog w).is (.inl i) (.int i t)=true:=kZe i t
theorem kUa (prog:Program) (w:World) (x:Str) (t:Tok):(jJ6 prog w).is (.inr x) (.str x t)=true:=kZd x t
end L2
set_option synthInstance.maxSize 1000
namespace L2
open PySem PySem.Spec PyProof.Rows
structure KeyV (prog:Program) (w:World) (K:Type) [DecidableEq K] (c:Nat) where
 is:Heap->K->Value->Prop
 hash:K->Int
 draws:K->Nat
 inj:∀ {h:Heap} {v:Value} {x y:K},is h x v->is h y v->x=y
 keeps:∀ {h h':Heap} {k:K} {v:Value} {d:Addr} {o:Obj} {es:Array DictEntry} {ep:Nat},is h k v->h.get? d=some o->o.data= .dict es ep->Heap.SameBut d h h'->is h' k v
 hashed:∀ {A:Around} {E:Value->Shared->Prop} {s:Shared} {k:K} {v:Value} {Q:Int->Shared->Prop},A.units+c<cLine->is s.heap k v->Q (hash k) {s with toks:=s.toks+draws k}->wpAny (model prog w) A (PySem.pyHash v) Q E s
 eqAt:∀ {A:Around} {s:Shared} {x y:K} {u v:Value},A.units+c<cLine->is s.heap x u->is s.heap y v->SeqAt.EqAt A s u v (decide (x=y))
 quiet:∀ {A:Around} {E:Value->Shared->Prop} {s:Shared} {k:K} {v:Value} {Q:Bool->Shared->Prop} (n:Nat),c<=n->is s.heap k v->Q true s->wpAny (model prog w) A (eqIsQuiet n v) Q E s
noncomputable def kVv (prog:Program) (w:World):KeyV prog w Key 0 where
 is:=fun _ k v=>kK2 k v=true
 hash:=keyH w
 draws:=fun _=>1
 inj:=fun hx hy=>(jJ6 prog w).inj _ _ _ hx hy
 keeps:=fun x _ _ _=>x
 hashed:=fun _ hv h=>(jJ6 prog w).pyHash hv h
 eqAt:=fun _ hx hy prog' w' _ _ h=>(jJ6 prog' w').eqBool hx hy h
 quiet:=fun n _ hv h=>by rw[eqIsQuiet_byValue n ((jJ6 prog w).byValue _ _ hv)];exact wpAny_pure h
section
variable {prog:Program} {w:World} {K:Type} [DecidableEq K] {c:Nat}
inductive ItemsV (V:KeyV prog w K c) (h:Heap):List K->List Value->Prop
 | nil:ItemsV V h [] []
 | cons {k:K} {v:Value} {ks:List K} {vs:List Value}:V.is h k v->ItemsV V h ks vs->ItemsV V h (k::ks) (v::vs)
theorem ItemsV.inj {V:KeyV prog w K c} {h:Heap} {x:List K} {vs:List Value} (hx:ItemsV V h x vs):∀ {y:List K},ItemsV V h y vs->x=y:=by
 induction hx with
 | nil=>intro y hy;cases hy;rfl
 | cons a _ ih=>intro y hy;cases hy with | cons b t=>rw[V.inj a b,ih t]
theorem ItemsV.length {V:KeyV prog w K c} {h:Heap} {x:List K} {vs:List Value} (hx:ItemsV V h x vs):x.length=vs.length:=by
 induction hx with
 | nil=>rfl
 | cons _ _ ih=>simp[ih]
theorem ItemsV.get {V:KeyV prog w K c} {h:Heap} {x:List K} {vs:List Value} (hx:ItemsV V h x vs):∀ {j:Nat} {v:Value},vs[j]? =some v->∃k,x[j]? =some k/\V.is h k v:=by
 induction hx with
 | nil=>intro j v e;simp at e
 | cons a _ ih=>
  intro j v e
  cases j with
  | zero=>simp at e;subst e;exact⟨_,rfl,a⟩
  | succ j=>obtain⟨k,h1,h2⟩:=ih (j:=j) (v:=v) (by simpa using e);exact⟨k,by simpa using h1,h2⟩
theorem ItemsV.keeps {V:KeyV prog w K c} {h h':Heap} {x:List K} {vs:List Value} {d:Addr} {o:Obj} {es:Array DictEntry} {ep:Nat} (hx:ItemsV V h x vs) (ho:h.get? d=some o) (hd:o.data= .dict es ep) (hs:Heap.SameBut d h h'):ItemsV V h' x vs:=by
 induction hx with
 | nil=>exact .nil
 | cons a _ ih=>exact .cons (V.keeps a ho hd hs) ih
noncomputable def qJt (V:KeyV prog w K c) (h:Heap) (ks:List K) (v:Value):Prop:=∃(a:Addr) (o:Obj) (items:Array Value) (n:Nat),v= .ref a/\h.get? a=some o/\o.cls= .type "tuple"/\o.data= .seq items n/\ItemsV V h ks items.toList
theorem all_eq:∀(x y:List K),((List.range (min x.length y.length)).all (fun j=>decide (x[j]? =y[j]?))&&x.length == y.length)=decide (x=y):=by
 intro x y
 by_cases e:x=y
 ·subst e;simp
 ·rw[decide_eq_false e,Bool.and_eq_false_iff]
  by_cases l:x.length=y.length
  ·left
   rw[List.all_eq_false]
   have:∃j:Nat,x[j]? ≠y[j]? :=by
    apply Classical.byContradiction
    intro q
    exact e (List.ext_getElem? fun j=>Classical.byContradiction fun z=>q ⟨j,z⟩)
   obtain⟨j,hj⟩:=this
   refine⟨j,List.mem_range.mpr ?_,by simpa using hj⟩
   rcases Nat.lt_or_ge j (min x.length y.length) with z | z
   ·exact z
   ·exact absurd (by rw[List.getElem?_eq_none (by omega),List.getElem?_eq_none (by omega)]) hj
  ·right;simpa using l
noncomputable def jVn (V:KeyV prog w K c):KeyV prog w (List K) (c+2) where
 is:=qJt V
 hash:=fun ks=>reduceHash (Builtin.Tuple.tupleHashOf (ks.map V.hash))
 draws:=fun ks=>(ks.map V.draws).sum+1
 inj:=by
  rintro h v x y ⟨a,o,items,n,rfl,ho,_,hd,hi⟩ ⟨a',o',items',n',e,ho',_,hd',hi'⟩
  cases e
  rw[ho] at ho';cases ho'
  rw[hd] at hd';cases hd'
  exact hi.inj hi'
 keeps:=by
  rintro h h' k v d o es ep ⟨a,o',items,n,rfl,ho',hc,hd',hi⟩ ho hd hs
  have ne:a≠d:=by
   rintro rfl
   rw[ho] at ho';cases ho'
   rw[hd] at hd';cases hd'
  exact⟨a,o',items,n,rfl,(hs.2 a ne).trans ho',hc,hd',hi.keeps ho hd hs⟩
 hashed:=by
  rintro A E s ks v Q hu ⟨a,o,items,n,rfl,ho,hc,hd,hi⟩ h
  refine PySem.W.pyHash_slot (T:="tuple") ⟨o,ho,hc⟩ F.slot_tuple_hash F.entry_tuple_hash (F.args_tuple_hash_1 _) (beq_builtin_none _) (.inr (by omega)) ?_
  refine (show wpAny _ _ (Builtin.Tuple.tupleItemsOf (.ref a) >>= _) _ _ s from wpAny_bind (wpAny_tupleItemsOf ho hd (wpAny_bind ?_)))
  rw[<-Array.forIn_toList]
  refine wpAny_forIn_list _ (fun rest (b:Array Int) z=>∃done left,ks=done++left/\ItemsV V s.heap left rest/\b.toList=done.map V.hash/\z={s with toks:=s.toks+(done.map V.draws).sum}) _ ?_ ?_ _ _ ⟨[],ks,rfl,hi,rfl,rfl⟩
  ·rintro x rest b z ⟨done,left,rfl,hl,hb,rfl⟩
   cases hl with
   | @cons k _ ks' _ h1 hl'=>
    refine wpAny_bind (V.hashed (by rw[Around.in1_units];omega) h1 ?_)
    first
     | exact wpAny_pure ⟨done++[k],ks',by simp,hl',by simp[hb],(by simp[Nat.add_assoc])⟩
     | exact wpAny_bind (wpAny_pure (wpAny_pure ⟨done++[k],ks',by simp,hl',by simp[hb],(by simp[Nat.add_assoc])⟩))
  ·rintro b z ⟨done,left,rfl,hl,hb,rfl⟩
   cases hl
   rw[List.append_nil] at h
   refine (show wpAny _ _ (retInt (Builtin.Tuple.tupleHashOf b.toList)) _ _ _ from ?_)
   rw[hb]
   exact wpAny_bind (wpAny_mkInt (wpAny_pure ⟨_,_,rfl,by simpa[Nat.add_assoc] using h⟩))
 eqAt:=by
  rintro A s x y u v hu ⟨a,o,items,n,rfl,ho,hc,hd,hi⟩ ⟨a',o',items',n',rfl,ho',hc',hd',hi'⟩
  by_cases e:a=a'
  ·subst e
   rw[ho] at ho';cases ho'
   rw[hd] at hd';cases hd'
   rw[hi.inj hi',decide_eq_true rfl]
   exact SeqAt.EqAt.same _
  ·have R:=SeqAt.RcAt.tuples (A:=A) (s:=s) (l:=a) (b:=a') (e:=fun j=>decide (x[j]? =y[j]?)) ⟨o,ho,hc,n,hd⟩ ⟨o',ho',hc',n',hd'⟩ (by omega) (fun j j1 j2=> ?_)
   ·have l1:=hi.length
    have l2:=hi'.length
    rw[<-all_eq x y,l1,l2]
    have R':=SeqAt.EqAt.of_refs e R
    simpa using R'
   ·obtain⟨k,h1,h2⟩:=hi.get (j:=j) (v:=items[j]) (by simp[j1])
    obtain⟨k',h1',h2'⟩:=hi'.get (j:=j) (v:=items'[j]) (by simp[j2])
    have:=V.eqAt (A:=A.in1) (s:=s) (by rw[Around.in1_units];omega) h2 h2'
    rw[h1,h1']
    simpa using this
 quiet:=by
  rintro A E s ks v Q n hn ⟨a,o,items,m,rfl,ho,hc,hd,hi⟩ h
  obtain⟨n,rfl⟩:∃nn,n=nn+1:=⟨n-1,by omega⟩
  have hT:s.TypeIs (.ref a) "tuple":=⟨o,ho,hc⟩
  unfold eqIsQuiet;refine wpAny_bind (wpAny_specialOf hT F.slot_tuple_eq.lookup ?_)
  refine (show wpAny _ _ (isInstance (.ref a) (.type "tuple") >>= _) _ _ s from wpAny_bind (wpAny_isInstance hT isSubtype_tuple_tuple ?_))
  simp only[if_false,Bool.not_true,Bool.false_eq_true]
  refine wpAny_bind (wpAny_seqItems ho hd (wpAny_bind ?_))
  refine (show wpAny _ _ (forIn items _ _) _ _ s from ?_)
  rw[<-Array.forIn_toList]
  refine wpAny_forIn_list _ (fun rest r z=>r.1=none/\z=s/\∃left,ItemsV V s.heap left rest) _ ?_ ?_ _ _ ⟨rfl,rfl,ks,hi⟩
  ·rintro x rest r z ⟨hr,rfl,left,hl⟩
   cases hl with
   | cons h1 hl'=>
    refine wpAny_bind (V.quiet n (by omega) h1 ?_)
    simp only[if_false,Bool.not_true,Bool.false_eq_true]
    exact wpAny_pure ⟨rfl,rfl,_,hl'⟩
  ·rintro⟨r1,r2⟩ z ⟨hr,rfl,_⟩
   simp only at hr;subst hr
   exact wpAny_pure h
theorem qV1 {α β:Type} [DecidableEq α] [DecidableEq β] (a b:α):decide ((Sum.inl a:α ⊕ β)=Sum.inl b)=decide (a=b):=by
 by_cases e:a=b
 ·simp[e]
 ·rw[decide_eq_false e,decide_eq_false fun z=>e (Sum.inl.inj z)]
theorem qV0 {α β:Type} [DecidableEq α] [DecidableEq β] (a b:β):decide ((Sum.inr a:α ⊕ β)=Sum.inr b)=decide (a=b):=by
 by_cases e:a=b
 ·simp[e]
 ·rw[decide_eq_false e,decide_eq_false fun z=>e (Sum.inr.inj z)]
noncomputable def sumVK (V:KeyV prog w K c):KeyV prog w (Key ⊕ List K) (c+2) where
 is:=fun h k v=>match k with
  | .inl k=>kK2 k v=true
  | .inr ks=>qJt V h ks v
 hash:=fun k=>match k with
  | .inl k=>keyH w k
  | .inr ks=>(jVn V).hash ks
 draws:=fun k=>match k with
  | .inl _=>1
  | .inr ks=>(jVn V).draws ks
 inj:=by
  rintro h v (x | x) (y | y) hx hy
  ·rw[(jJ6 prog w).inj _ _ _ hx hy]
  ·obtain⟨a,_,_,_,rfl,_⟩:=hy
   rcases jJ1 hx with ⟨i,t,_,e⟩ | ⟨i,t,_,e⟩<;>cases e
  ·obtain⟨a,_,_,_,rfl,_⟩:=hx
   rcases jJ1 hy with ⟨i,t,_,e⟩ | ⟨i,t,_,e⟩<;>cases e
  ·rw[(jVn V).inj hx hy]
 keeps:=by
  rintro h h' (k | k) v d o es ep hx ho hd hs
  ·exact hx
  ·exact (jVn V).keeps hx ho hd hs
 hashed:=by
  rintro A E s (k | k) v Q hu hx h
  ·exact (jJ6 prog w).pyHash hx h
  ·exact (jVn V).hashed hu hx h
 eqAt:=by
  rintro A s (x | x) (y | y) u v hu hx hy
  ·rw[qV1]
   exact (kVv prog w).eqAt (by omega) hx hy
  ·rw[decide_eq_false fun z=>nomatch z]
   obtain⟨a,o,items,n,rfl,ho,hc,hd,_⟩:=hy
   rcases jJ1 hx with ⟨i,t,_,rfl⟩ | ⟨i,t,_,rfl⟩
   ·exact SeqAt.EqAt.int_tuple i t ⟨o,ho,hc,n,hd⟩ (by omega)
   ·exact SeqAt.EqAt.str_tuple i t ⟨o,ho,hc,n,hd⟩ (by omega)
  ·rw[decide_eq_false fun z=>nomatch z]
   obtain⟨a,o,items,n,rfl,ho,hc,hd,_⟩:=hx
   rcases jJ1 hy with ⟨i,t,_,rfl⟩ | ⟨i,t,_,rfl⟩
   ·exact SeqAt.EqAt.tuple_int i t ⟨o,ho,hc,n,hd⟩ (by omega)
   ·exact SeqAt.EqAt.tuple_str i t ⟨o,ho,hc,n,hd⟩ (by omega)
  ·rw[qV0]
   exact (jVn V).eqAt hu hx hy
 quiet:=by
  rintro A E s (k | k) v Q n hn hx h
  ·exact (kVv prog w).quiet n (Nat.zero_le _) hx h
  ·exact (jVn V).quiet n hn hx h
end
abbrev K1:=Key ⊕ List Key
abbrev K2:=Key ⊕ List K1
abbrev TKey:=List K2
def vk1 (prog:Program) (w:World):KeyV prog w K1 2:=sumVK (kVv prog w)
def vk2 (prog:Program) (w:World):KeyV prog w K2 4:=sumVK (vk1 prog w)
noncomputable def jUk (prog:Program) (w:World):HeapKind prog w TKey where
 is:=fun h ks a=>(jVn (vk2 prog w)).is h ks (.ref a)
 hash:=(jVn (vk2 prog w)).hash
 draws:=(jVn (vk2 prog w)).draws
 room:=fun A=>A.units+6<cLine
 inj:=fun hx hy=>(jVn (vk2 prog w)).inj hx hy
 keeps:=fun x ho hd hs=>(jVn (vk2 prog w)).keeps x ho hd hs
 pyHash:=fun hu hk h=>(jVn (vk2 prog w)).hashed hu hk h
 eqBool:=fun hu hx hy h=>(jVn (vk2 prog w)).eqAt hu hx hy _ _ _ _ h
 quiet:=fun hk h=>(jVn (vk2 prog w)).quiet 8 (by decide) hk h
theorem jKs {prog:Program} {w:World} {A:Around} (hu:A.units+20<cLine):(jUk prog w).room A.in1:=by
 show A.in1.units+6<cLine
 rw[Around.in1_units];omega
inductive V where
 | non | bl (b:Bool) | int (i:Int) | str (x:Str) | byt (b:Array UInt8) | flt (b:UInt64) | ref (a:Addr) | ty (n:String)
 deriving DecidableEq
noncomputable def RelV:V->Value->Prop
 | .non,u=>u=Value.none
 | .bl b,u=>u=Value.bool b
 | .int i,u=>∃t,u=Value.int i t
 | .str x,u=>∃t,u=Value.str x t
 | .byt b,u=>∃t,u=Value.bytes b t
 | .flt b,u=>∃t,u=Value.float b t
 | .ref a,u=>u=Value.ref a
 | .ty n,u=>u=Value.type n
abbrev Vals:List V->List Value->Prop:=Paired RelV
theorem Vals.length {xs:List V} {us:List Value} (r:Vals xs us):xs.length=us.length:=Paired.length r
theorem Vals.get:∀ {xs:List V} {us:List Value} {i:Nat} {x:V},Vals xs us->xs[i]? =some x->∃u,us[i]? =some u/\RelV x u
 | _,_,_,_,.nil,e=>by simp at e
 | _,_,0,_,.cons r _,e=>by simp at e;subst e;exact⟨_,rfl,r⟩
 | _,_,i+1,x,.cons _ t,e=>by
  obtain⟨u,h1,h2⟩:=Vals.get (i:=i) (x:=x) t (by simpa using e)
  exact⟨u,by simpa using h1,h2⟩
theorem Vals.set {x:V} {u:Value} (r:RelV x u):∀ {xs:List V} {us:List Value} (i:Nat),Vals xs us->Vals (xs.set i x) (us.set i u)
 | _,_,_,.nil=> .nil
 | _,_,0,.cons _ t=> .cons r t
 | _,_,i+1,.cons q t=> .cons q (Vals.set r i t)
theorem Vals.append:∀ {xs ys:List V} {us ws:List Value},Vals xs us->Vals ys ws->Vals (xs++ys) (us++ws)
 | _,_,_,_,.nil,s=>s
 | _,_,_,_,.cons r t,s=> .cons r (Vals.append t s)
theorem Vals.take:∀ {xs:List V} {us:List Value} (n:Nat),Vals xs us->Vals (xs.take n) (us.take n)
 | _,_,0,_=> .nil
 | _,_,_+1,.nil=> .nil
 | _,_,n+1,.cons r t=> .cons r (Vals.take n t)
theorem Vals.drop:∀ {xs:List V} {us:List Value} (n:Nat),Vals xs us->Vals (xs.drop n) (us.drop n)
 | _,_,0,r=>r
 | _,_,_+1,.nil=> .nil
 | _,_,n+1,.cons _ t=>Vals.drop n t
def RelO:Option V->Option Value->Prop
 | some v,some u=>RelV v u
 | none,none=>True
 | _,_=>False
def KV {κ:Type}:List (κ×V)->List (κ×Value)->Prop:=Paired fun (p:κ×V) (q:κ×Value)=>p.1=q.1/\RelV p.2 q.2
def kV:Key->V
 | .inl i=> .int i
 | .inr x=> .str x
inductive HO where
  | lst (xs:List V)
  | tup (xs:List V)
  | dK (kvs:List (Key×V)) | dT (kvs:List (TKey×V))
  | set (S:Int->Bool) (n:Nat)
  | ins (C dx:Addr) (fs:List (Str×V))
  | own (x:Addr)
  | xd (fs:List (Str×V))
  | met (f x:Addr)
  | rng (lo hi:Int)
  | frz (o:Obj) (u:HO)
  | tbl (ps:Array Value)
  | ext (φ:Heap->Prop)
abbrev Hp:=Addr->Option HO
def upd (H:Hp) (a:Addr) (o:HO):Hp:=fun b=>if b=a then some o else H b
theorem jJ8 {H:Hp} {a:Addr} {o:HO}:upd H a o a=some o:=by unfold upd;rw[if_pos rfl]
theorem jJz {H:Hp} {a b:Addr} {o:HO} (h:b≠a):upd H a o b=H b:=by unfold upd;rw[if_neg h]
theorem ne_of {H:Hp} {a b:Addr} {o u:HO} (h:H a=some o) (h':H b=some u) (d:o≠u):a≠b:=by
 intro e;subst e;rw[h] at h';exact d (Option.some.inj h')
theorem jUg {H:Hp} {a b:Addr} {o:HO} (h:H a=some o) (h':H b=none):a≠b:=by
 intro e;subst e;rw[h] at h';cases h'
def Rk1 (H:Hp) (k:K1) (v:V):Prop:=match k with
 | .inl k=>v=kV k
 | .inr ks=>∃p vs,v= .ref p/\H p=some (.tup vs)/\Paired (fun k v=>v=kV k) ks vs
def Rk2 (H:Hp) (k:K2) (v:V):Prop:=match k with
 | .inl k=>v=kV k
 | .inr ks=>∃p vs,v= .ref p/\H p=some (.tup vs)/\Paired (Rk1 H) ks vs
def TKeyAt (H:Hp) (ks:TKey) (a:Addr):Prop:=∃vs,H a=some (.tup vs)/\Paired (Rk2 H) ks vs
theorem jVu {α β:Type} {F G:α->β->Prop} (f:∀a b,F a b->G a b):∀ {l:List α} {m:List β},Paired F l m->Paired G l m
 | _,_,.nil=> .nil
 | _,_,.cons r t=> .cons (f _ _ r) (jVu f t)
theorem Rk1.mono {H H':Hp} (ht:∀b ys,H b=some (.tup ys)->H' b=some (.tup ys)) (k:K1) (v:V) (r:Rk1 H k v):Rk1 H' k v:=by
 cases k with
 | inl k=>exact r
 | inr ks=>obtain⟨p,vs,e,h,t⟩:=r;exact⟨p,vs,e,ht _ _ h,t⟩
theorem Rk2.mono {H H':Hp} (ht:∀b ys,H b=some (.tup ys)->H' b=some (.tup ys)) (k:K2) (v:V) (r:Rk2 H k v):Rk2 H' k v:=by
 cases k with
 | inl k=>exact r
 | inr ks=>obtain⟨p,vs,e,h,t⟩:=r;exact⟨p,vs,e,ht _ _ h,jVu (Rk1.mono ht) t⟩
theorem TKeyAt.mono {H H':Hp} {ks:TKey} {a:Addr} (r:TKeyAt H ks a) (ht:∀b ys,H b=some (.tup ys)->H' b=some (.tup ys)):TKeyAt H' ks a:=by
 obtain⟨vs,h,t⟩:=r;exact⟨vs,ht _ _ h,jVu (Rk2.mono ht) t⟩
section
variable (P:Program) (w:World)
def TupD (h:Heap) (a:Addr) (items:Array Value):Prop:=∃o,h.get? a=some o/\o.cls= .type "tuple"/\∃n,o.data= .seq items n/\o.dict=none
theorem TupD.is {h:Heap} {a:Addr} {items:Array Value} (x:TupD h a items):IsTup h a items:=let ⟨o,e,c,n,d,_⟩:=x;⟨o,e,c,n,d⟩
theorem TupD.new (h:Heap) (items:Array Value):TupD (h.push {cls:= .type "tuple",data:= .seq items}) h.objs.size items:=⟨_,Heap.get?_push_size _ rfl,rfl,_,rfl,rfl⟩
noncomputable def ObjOk (H:Hp) (h:Heap) (a:Addr):HO->Prop
 | .lst xs=>xs.length<=sizeLine/\∃(its:List Value) (n:Nat),Vals xs its/\h.get? a=some {cls:= .type "list",data:= .seq its.toArray n}
 | .tup xs=>xs.length<=sizeLine/\∃its:List Value,Vals xs its/\TupD h a its.toArray
 | .dK kvs=>kvs.length<=sizeLine/\(a == sysModules)=false/\∃vs,KV kvs vs/\h.DictOf (jJ6 P w) a vs
 | .dT kvs=>kvs.length<=sizeLine/\(a == sysModules)=false/\∃xs:List (TKey×Addr×Value),
   Paired (fun (p:TKey×V) (q:TKey×Addr×Value)=>p.1=q.1/\TKeyAt H p.1 q.2.1/\RelV p.2 q.2.2) kvs xs/\
   ∃o es ep,h.get? a=some o/\o.ExactDict/\o.data= .dict es ep/\es.toList=xs.map (entryOfKey (jUk P w))/\(xs.map (·.1)).Nodup
 | .set S n=>h.SetOf (intKind P w) a S n
 | .ins C dx fs=>H dx=some (.own a)/\fs.length<=1000/\dx≠a/\h.get? a=some (PySem.W.instObj C dx)/\
   ∃mA,h.Ns1 dx mA/\(∀f,RelO (fs.lookup f) (mA f))/\PySem.Within mA (fs.map (·.1))
 | .own _=>∃o,h.get? a=some o
 | .xd fs=>∃mA,h.Ns1 a mA/\∀f,RelO (fs.lookup f) (mA f)
 | .rng lo hi=>∃t u v,h.get? a=some {cls:= .type "range",data:= .fields #[.int lo t,.int hi u,.int 1 v]}
 | .frz o u=>h.get? a=some o/\ObjOk H h a u
 | .tbl ps=>h.get? a=some {cls:= .none,data:= .fields ps}
 | .met f x=>h.get? a=some (PySem.W.methodObj (.ref f) (.ref x))
 | .ext φ=>φ h/\(∃o,h.get? a=some o)/\∀h1 h2:Heap,φ h1->(∀o,h1.get? a=some o->h2.get? a=some o)->φ h2
def HOk (H:Hp) (h:Heap):Prop:=∀a o,H a=some o->ObjOk P w H h a o
end
section
variable {P:Program} {w:World} {H H':Hp} {h h':Heap} {a:Addr} {o:HO}
theorem ObjOk.lt (x:ObjOk P w H h a o):a<h.objs.size:=by
 cases o with
 | lst xs=>obtain⟨_,_,_,_,e⟩:=x;exact Heap.lt_size e
 | tup xs=>obtain⟨_,_,_,p⟩:=x;exact p.is.lt
 | dK kvs=>obtain⟨_,_,_,_,o,_,_,e,_⟩:=x;exact Heap.lt_size e
 | dT kvs=>obtain⟨_,_,_,_,o,_,_,e,_⟩:=x;exact Heap.lt_size e
 | set S n=>obtain⟨o,_,_,_,e,_⟩:=x;exact Heap.lt_size e
 | ins C dx fs=>obtain⟨_,_,_,e,_⟩:=x;exact Heap.lt_size e
 | own y=>obtain⟨_,e⟩:=x;exact Heap.lt_size e
 | xd fs=>obtain⟨_,⟨_,_,_,e,_⟩,_⟩:=x;exact Heap.lt_size e
 | rng lo hi=>obtain⟨_,_,_,e⟩:=x;exact Heap.lt_size e
 | frz ob u=>obtain⟨e,_⟩:=x;exact Heap.lt_size e
 | tbl ps=>exact Heap.lt_size (show h.get? a=some _ from x)
 | met f y=>exact Heap.lt_size (show h.get? a=some _ from x)
 | ext φ=>obtain⟨_,⟨_,e⟩,_⟩:=x;exact Heap.lt_size e
theorem Paired.mapP {α β:Type} {F G:α->β->Prop}:∀ {l₁:List α} {l₂:List β},Paired F l₁ l₂->(∀a b,F a b->G a b)->Paired G l₁ l₂
 | _,_,.nil,_=> .nil
 | _,_,.cons r t,f=> .cons (f _ _ r) (Paired.mapP t f)
theorem ObjOk.stay (x:ObjOk P w H h a o) (k:∀b u,(b=a\/H b=some (.own a))->h.get? b=some u->h'.get? b=some u)
  (ho:∀b,H b=some (.own a)->H' b=some (.own a)) (ht:∀b xs,H b=some (.tup xs)->H' b=some (.tup xs)):ObjOk P w H' h' a o:=by
 induction o with
 | lst xs=>obtain⟨z,its,n,r,e⟩:=x;exact⟨z,its,n,r,k _ _ (.inl rfl) e⟩
 | tup xs=>obtain⟨z,its,r,ob,e,c⟩:=x;exact⟨z,its,r,ob,k _ _ (.inl rfl) e,c⟩
 | dK kvs=>obtain⟨z,y,vs,r,ob,es,ep,e,c⟩:=x;exact⟨z,y,vs,r,ob,es,ep,k _ _ (.inl rfl) e,c⟩
 | dT kvs=>
  obtain⟨z,y,xs,r,ob,es,ep,e,c⟩:=x
  exact⟨z,y,xs,Paired.mapP r fun p q z=>⟨z.1,z.2.1.mono ht,z.2.2⟩,ob,es,ep,k _ _ (.inl rfl) e,c⟩
 | set S n=>obtain⟨ob,es,ep,t,e,c⟩:=x;exact⟨ob,es,ep,t,k _ _ (.inl rfl) e,c⟩
 | ins C dx fs=>
  obtain⟨d,z,ne,e,mA,⟨od,es,ep,e2,c⟩,r⟩:=x
  exact⟨ho _ d,z,ne,k _ _ (.inl rfl) e,mA,⟨od,es,ep,k _ _ (.inr d) e2,c⟩,r⟩
 | own y=>obtain⟨ob,e⟩:=x;exact⟨ob,k _ _ (.inl rfl) e⟩
 | xd fs=>obtain⟨mA,⟨od,es,ep,e,c⟩,r⟩:=x;exact⟨mA,⟨od,es,ep,k _ _ (.inl rfl) e,c⟩,r⟩
 | rng lo hi=>obtain⟨t,u,v,e⟩:=x;exact⟨t,u,v,k _ _ (.inl rfl) e⟩
 | frz ob u ih=>obtain⟨e,q⟩:=x;exact⟨k _ _ (.inl rfl) e,ih q⟩
 | tbl ps=>
  have e:h.get? a=some {cls:= .none,data:= .fields ps}:=x
  show h'.get? a=some {cls:= .none,data:= .fields ps}
  exact k a _ (.inl rfl) e
 | met f y=>
  have e:h.get? a=some (PySem.W.methodObj (.ref f) (.ref y)):=x
  show h'.get? a=some (PySem.W.methodObj (.ref f) (.ref y))
  exact k a _ (.inl rfl) e
 | ext φ=>obtain⟨p,⟨o,e⟩,st⟩:=x;exact⟨st _ _ p fun o q=>k _ _ (.inl rfl) q,⟨o,k _ _ (.inl rfl) e⟩,st⟩
theorem HOk.lt (x:HOk P w H h) (e:H a=some o):a<h.objs.size:=(x a o e).lt
theorem HOk.fresh (x:HOk P w H h) (e:h.objs.size<=a):H a=none:=by
 cases q:H a with
 | none=>rfl
 | some u=>exact absurd (Nat.lt_of_lt_of_le (x.lt q) e) (Nat.lt_irrefl _)
theorem HOk.kept (x:HOk P w H h) (k:∀b u,h.get? b=some u->h'.get? b=some u):HOk P w H h':=fun a o e=>
 (x a o e).stay (fun b u _ q=>k b u q) (fun _ q=>q) fun _ _ q=>q
theorem HOk.laid (x:HOk P w H h) (k:∀b u,h.get? b=some u->h'.get? b=some u) (hp:h.objs.size<=a) (new:ObjOk P w (upd H a o) h' a o):HOk P w (upd H a o) h':=fun b u e=>by
 have hn:=x.fresh hp
 by_cases hb:b=a
 ·subst hb;rw[jJ8] at e;cases e;exact new
 ·rw[jJz hb] at e
  exact (x b u e).stay (fun c v _ q=>k c v q) (fun c q=>by rw[jJz (jUg q hn)];exact q) fun c xs q=>by rw[jJz (jUg q hn)];exact q
end
def Rd (H:Hp) (a:Addr) (u:HO):Prop:=H a=some u\/∃o,H a=some (.frz o u)
theorem Rd.ok {P:Program} {w:World} {H:Hp} {h:Heap} {a:Addr} {u:HO} (r:Rd H a u) (x:HOk P w H h):ObjOk P w H h a u:=by
 rcases r with r | ⟨o,r⟩
 ·exact x a u r
 ·obtain⟨_,q⟩:=x a _ r
  exact q
def Mut:Option HO->Prop
 | some (.lst _)=>True
 | some (.dK _)=>True
 | some (.dT _)=>True
 | some (.set _ _)=>True
 | some (.ins _ _ _)=>True
 | some (.ext _)=>True
 | _=>False
section
variable {P:Program} {w:World} {H:Hp} {h h':Heap} {x e:Addr} {o':HO}
theorem HOk.write (ok:HOk P w H h) (mu:Mut (H x)) (he:e=x\/H e=some (.own x)) (k:∀b u,b≠e->h.get? b=some u->h'.get? b=some u) (heo:∃u,h'.get? e=some u)
  (new:ObjOk P w (upd H x o') h' x o'):HOk P w (upd H x o') h':=fun b u q=>by
 have nown:∀c y,H c=some (.own y)->c≠x:=fun c y r z=>by subst z;rw[r] at mu;exact mu
 have ntup:∀c xs,H c=some (.tup xs)->c≠x:=fun c xs r z=>by subst z;rw[r] at mu;exact mu
 by_cases hb:b=x
 ·subst hb;rw[jJ8] at q;cases q;exact new
 ·rw[jJz hb] at q
  by_cases hbe:b=e
  ·have q':H b=some (.own x):=by
    rcases he with z | z
    ·exact absurd (hbe.trans z) hb
    ·rw[hbe];exact z
   rw[q] at q';cases q'
   obtain⟨v,hv⟩:=heo
   exact⟨v,by rw[hbe];exact hv⟩
  ·refine (ok b u q).stay (fun c v hc r=>k c v ?_ r) (fun c r=>by rw[jJz (nown c b r)];exact r) fun c xs r=>by rw[jJz (ntup c xs r)];exact r
   rcases hc with rfl | hc
   ·exact hbe
   ·rintro rfl
    rcases he with z | z
    ·exact nown c b hc z
    ·rw[hc] at z;cases z;exact hb rfl
end
structure Un (fs ex:List Addr) (H H':Hp) (h h':Heap):Prop where
 keep:∀b o,h.get? b=some o->H b=none->b∉fs->b∉ex->h'.get? b=some o
 slot:∀b o,h.get? b=some o->H b=none->b∈fs->b∉ex->∃sl,h'.get? b=some {o with slots:=sl}
 free:∀b o,h.get? b=some o->H b=none->b∉ex->H' b=none
 there:∀b o,h.get? b=some o->b∉ex->∃o',h'.get? b=some o'
 tups:∀b xs,H b=some (.tup xs)->H' b=some (.tup xs)
 frzs:∀b o u,H b=some (.frz o u)->H' b=some (.frz o u)
 tbls:∀b ps,H b=some (.tbl ps)->∃more,H' b=some (.tbl (ps++more))
section
variable {fs fs' ex ex':List Addr} {H H1 H2:Hp} {h h1 h2 h':Heap} {a x e:Addr} {o:HO}
theorem Un.any (u:Un fs ex H H1 h h1) {b:Addr} {ob:Obj} (q:h.get? b=some ob) (n:H b=none) (hx:b∉ex):∃sl,h1.get? b=some {ob with slots:=sl}:=by
 by_cases hb:b∈fs
 ·exact u.slot b ob q n hb hx
 ·exact⟨ob.slots,u.keep b ob q n hb hx⟩
theorem Un.kept (k:∀b u,h.get? b=some u->h'.get? b=some u):Un fs ex H H h h':=
 ⟨fun b ob q _ _ _=>k b ob q,fun b ob q _ _ _=>⟨ob.slots,k b ob q⟩,fun _ _ _ n _=>n,fun b ob q _=>⟨ob,k b ob q⟩,fun _ _ q=>q,fun _ _ _ q=>q,fun _ ps q=>⟨#[],by rw[q];simp⟩⟩
theorem Un.refl:Un fs ex H H h h:=Un.kept fun _ _ q=>q
theorem Un.laid (k:∀b u,h.get? b=some u->h'.get? b=some u) (hp:h.objs.size<=a) (hn:H a=none):Un fs ex H (upd H a o) h h' where
 keep:=fun b u q _ _ _=>k b u q
 slot:=fun b u q _ _ _=>⟨u.slots,k b u q⟩
 free:=fun b u q n _=>by rw[jJz (Nat.ne_of_lt (Nat.lt_of_lt_of_le (Heap.lt_size q) hp))];exact n
 there:=fun b u q _=>⟨u,k b u q⟩
 tups:=fun b xs q=>by rw[jJz (jUg q hn)];exact q
 frzs:=fun b u xs q=>by rw[jJz (jUg q hn)];exact q
 tbls:=fun b ps q=>⟨#[],by rw[jJz (jUg q hn),q];simp⟩
theorem Un.write (mu:Mut (H x)) (he:e=x\/H e=some (.own x)) (k:∀b u,b≠e->h.get? b=some u->h'.get? b=some u) (heo:∃u,h'.get? e=some u):Un fs ex H (upd H x o) h h':=by
 have hx:∀b,H b=none->b≠x:=fun b n z=>by subst z;rw[n] at mu;exact mu
 have hb:∀b,H b=none->b≠e:=fun b n z=>by
  subst z
  rcases he with r | r
  ·exact hx b n r
  ·rw[n] at r;cases r
 have hm:∀b u,H b=some u->¬ Mut (some u)->b≠x:=fun b u q nm z=>by subst z;rw[q] at mu;exact nm mu
 refine⟨fun b u q n _ _=>k b u (hb b n) q,fun b u q n _ _=>⟨u.slots,k b u (hb b n) q⟩,fun b u q n _=>by rw[jJz (hx b n)];exact n,fun b u q _=> ?_,
  fun b xs q=>by rw[jJz (hm b _ q fun z=>z)];exact q,fun b u xs q=>by rw[jJz (hm b _ q fun z=>z)];exact q,fun b ps q=>⟨#[],by rw[jJz (hm b _ q fun z=>z),q];simp⟩⟩
 by_cases hbe:b=e
 ·subst hbe;exact heo
 ·exact⟨u,k b u hbe q⟩
end
def trk (h:Heap) (H:Hp):List Addr:=(List.range h.objs.size).filter fun a=>(H a).isSome
def hidT (h:Heap) (H:Hp):Heap:=PySem.W.hideAll h (trk h H)
theorem kZl (h:Heap) (H:Hp):(hidT h H).objs.size=h.objs.size:=PySem.W.hideAll_size _ _
theorem qQd {h:Heap} {H:Hp} {b:Addr} {o:Obj} (e:h.get? b=some o) (n:H b=none):(hidT h H).get? b=some o:=
 PySem.W.hideAll_get _ e fun hm=>by
  have q:(H b).isSome=true:=(List.mem_filter.mp hm).2
  rw[n] at q;simp at q
theorem qU2 {h:Heap} {H:Hp} {b:Addr} {o:Obj} (e:(hidT h H).get? b=some o):h.get? b=some o/\H b=none:=by
 have e':h.get? b=some o:=PySem.W.of_hideAll (trk h H) e
 refine⟨e',?_⟩
 cases q:H b with
 | none=>rfl
 | some x=>
  have hm:b∈trk h H:=List.mem_filter.mpr ⟨List.mem_range.mpr (Heap.lt_size e'),by simp[q]⟩
  have z:(hidT h H).get? b=none:=PySem.W.hideAll_none (trk h H) hm
  rw[z] at e;cases e
def qV8 (g h:Heap) (L:Addr):List (Addr×Obj):=(List.range h.objs.size).filterMap fun a=>if a=L\/(g.get? a).isSome=true then none else (h.get? a).map fun o=>(a,o)
def rest (g h:Heap) (L d:Addr):List (Addr×Obj):=(qV8 g h L).filter fun p=>decide (p.1≠d)
structure Mod (K:PySem.W.Frag) (mg:Str->Option Value) (base:Heap):Prop where
 kin:K.In base
 glob:base.Ns mainGlobals mg
 blt:∃mb,base.Ns builtinsNs mb/\∀x:Str,x≠"__name__"->mb x=bootBuiltins x
 nolimit:base.NoLimit
structure Cx where
 prog:Program
 w:World
 K:PySem.W.Frag
 mg:Str->Option Value
 base:Heap
 A:Around
 N:List Str
 s₀:Shared
 H₀:Hp
 env:Env
 outer:List Env
 stack:List Env
 ex:List Addr
 fn:Str->Bool
 calm:Bool
 pn:List (Addr×Obj)
 xe:Value->Shared->Prop
def frs (l:List Env):List Addr:=l.filterMap (·.frame)
abbrev Cx.fs (X:Cx):List Addr:=frs X.outer
def Vis (sc:Scope) (x:Str):Prop:=sc.names.lookup x=some .local\/sc.names.lookup x=some .cell\/sc.names.lookup x=some .free
def Loc (sc:Scope) (x:Str):Prop:=sc.names.lookup x=some .local\/sc.names.lookup x=some .cell
noncomputable def Look (env:Env) (h:Heap) (m:Str->Option Value) (x:Str) (u:Value):Prop:=
 (env.kindOf x=some .local/\m x=some u)\/((env.kindOf x=some .cell\/env.kindOf x=some .free)/\∃c,env.cells.lookup x=some c/\h.IsCell c (some u))
structure Cx.Ok (X:Cx):Prop where
 mod:Mod X.K X.mg X.base
 kind:X.env.scope.kind= .function
 glob:X.env.globals=mainGlobals
 blt:X.env.builtins=builtinsNs
 above:X.s₀.heap.objs.size<=X.env.locals
 inj:∀x y c,X.env.cells.lookup x=some c->X.env.cells.lookup y=some c->x=y
 has:∀x,(X.env.kindOf x=some .cell\/X.env.kindOf x=some .free)->∃c,X.env.cells.lookup x=some c
 cab:∀x c,X.fn x=true->X.env.cells.lookup x=some c->X.s₀.heap.objs.size<=c
 hd:X.calm=true->X.A.handled=none
 gd:X.calm=true->X.A.guards=some []
 frames:X.A.frames=some X.stack
 stk:X.stack=X.outer\/(X.stack=X.env::X.outer/\X.env.frame=some X.env.locals)
 exf:∀b∈X.ex,b≠X.env.locals/\∀x c,X.env.cells.lookup x=some c->c≠b
 bs:∀b o,X.base.get? b=some o->X.s₀.heap.get? b=some o/\X.H₀ b=none
 bsz:X.base.objs.size<=X.s₀.heap.objs.size
 noex:∀b o,X.base.get? b=some o->b∉X.ex
 exfs:∀b∈X.ex,b∉X.fs
 funs:X.s₀.heap.FunFrames X.base X.outer
 frf:∀b∈X.fs,X.H₀ b=none
structure Inv (X:Cx) (pins:List (Addr×Obj)) (σ:List (Option V)) (H:Hp) (s:Shared):Prop where
 ok:X.Ok
 os:s.os=X.s₀.os
 bare:AllBare s.gens
 base:Un X.fs X.ex X.H₀ H X.s₀.heap s.heap
 loc:∃m,s.heap.Ns X.env.locals m/\∀(i:Nat) (x:Str) (v:V),X.N[i]? =some x->σ[i]? =some (some v)->Vis X.env.scope x->∃u,RelV v u/\Look X.env s.heap m x u
 cell:∀x c,X.env.cells.lookup x=some c->∃v,s.heap.IsCell c v
 free:H X.env.locals=none
 freeC:∀x c,X.env.cells.lookup x=some c->H c=none
 pin:∀p∈X.pn++pins,s.heap.get? p.1=some p.2/\H p.1=none/\p.1≠X.env.locals/\p.1∉X.fs/\∀v,p.2.data≠ .cell v
 hok:HOk X.prog X.w H s.heap
 len:σ.length=X.N.length
section
variable {X:Cx} {pins:List (Addr×Obj)} {σ:List (Option V)} {H H':Hp} {s:Shared} {h':Heap}
theorem Cx.Ok.nofr (ok:X.Ok) {b:Addr} {o:Obj} (e:X.base.get? b=some o):b∉X.fs:=fun hb=>by
 have:=(ok.funs.mem hb).1
 rw[e] at this;cases this
theorem Inv.bs (I:Inv X pins σ H s):∀b o,X.base.get? b=some o->s.heap.get? b=some o/\H b=none:=fun b o e=>
 ⟨I.base.keep b o (I.ok.bs b o e).1 (I.ok.bs b o e).2 (I.ok.nofr e) (I.ok.noex b o e),I.base.free b o (I.ok.bs b o e).1 (I.ok.bs b o e).2 (I.ok.noex b o e)⟩
theorem Inv.bk (I:Inv X pins σ H s):∀b o,X.base.get? b=some o->s.heap.get? b=some o:=fun b o e=>(I.bs b o e).1
theorem Inv.mod (I:Inv X pins σ H s):Mod X.K X.mg X.base:=I.ok.mod
theorem Inv.kIn (I:Inv X pins σ H s):X.K.In s.heap:=I.ok.mod.kin.keeps I.bk
theorem Inv.lt (I:Inv X pins σ H s):X.env.locals<s.heap.objs.size:=let ⟨_,hn,_⟩:=I.loc;hn.lt
theorem Inv.sz (I:Inv X pins σ H s):X.s₀.heap.objs.size<=s.heap.objs.size:=Nat.le_trans I.ok.above (Nat.le_of_lt I.lt)
theorem Inv.nofs (I:Inv X pins σ H s) {a:Addr} (h:s.heap.objs.size<=a):a∉X.fs:=fun hb=>by
 obtain⟨_,o,ho,_⟩:=I.ok.funs.mem hb
 exact absurd (Nat.lt_of_lt_of_le (Heap.lt_size ho) (Nat.le_trans I.sz h)) (Nat.lt_irrefl _)
theorem Inv.cne (I:Inv X pins σ H s):∀x c,X.env.cells.lookup x=some c->c≠X.env.locals:=fun x c e z=>by
 obtain⟨v,o,ho,hd⟩:=I.cell x c e
 obtain⟨m,⟨o',es,ep,ho',hd',_⟩,_⟩:=I.loc
 rw[z,ho'] at ho;cases ho;rw[hd'] at hd;cases hd
theorem Inv.funs (I:Inv X pins σ H s):s.heap.FunFrames X.base X.outer:=by
 have all:∀(l:List Env),(∀b∈frs l,b∈X.fs)->X.s₀.heap.FunFrames X.base l->s.heap.FunFrames X.base l:=by
  intro l
  induction l with
  | nil=>intro _ _;trivial
  | cons env r ih=>
   intro hs hl
   obtain⟨hk,⟨L,o,hf,hn,ho,hd⟩,hr⟩:=hl
   have hL:L∈X.fs:=hs L (by unfold frs;rw[List.filterMap_cons,hf];exact List.mem_cons_self)
   obtain⟨sl,e⟩:=I.base.slot L o ho (I.ok.frf L hL) hL fun z=>I.ok.exfs L z hL
   exact⟨hk,⟨L,_,hf,hn,e,hd⟩,ih (fun b hb=>hs b (by unfold frs;rw[List.filterMap_cons,hf];exact List.mem_cons_of_mem _ hb)) hr⟩
 exact all X.outer (fun _ hb=>hb) I.ok.funs
theorem Inv.stack (I:Inv X pins σ H s):s.heap.FunFrames X.base X.stack:=by
 rcases I.ok.stk with e | ⟨e,hf⟩
 ·rw[e];exact I.funs
 ·rw[e]
  obtain⟨m,hn,_⟩:=I.loc
  refine .cons (by rw[I.ok.kind];decide) hf hn ?_ I.funs
  exact Heap.get?_none_of_le (Nat.le_trans I.ok.bsz I.ok.above)
theorem Inv.stkSub (I:Inv X pins σ H s):∀b∈frs X.stack,b∈X.env.locals::X.fs:=fun b hb=>by
 rcases I.ok.stk with e | ⟨e,hf⟩
 ·rw[e] at hb;exact List.mem_cons_of_mem _ hb
 ·rw[e] at hb
  unfold frs at hb
  rw[List.filterMap_cons,hf] at hb
  exact hb
theorem Inv.stkFree (I:Inv X pins σ H s):∀b∈frs X.stack,H b=none:=fun b hb=>by
 rcases List.mem_cons.mp (I.stkSub b hb) with e | hb
 ·rw[e];exact I.free
 ·obtain⟨_,o,ho,_⟩:=I.ok.funs.mem hb
  exact I.base.free b o ho (I.ok.frf b hb) fun z=>I.ok.exfs b z hb
theorem Inv.step {g':Array GenState} {t':Nat} {d':Drawn} {ch:List Addr} (I:Inv X pins σ H s)
  (hch:∀b∈ch,(b∈X.ex\/X.s₀.heap.objs.size<=b)/\b≠X.env.locals/\(∀x c,X.env.cells.lookup x=some c->c≠b)/\∀p∈X.pn++pins,p.1≠b)
  (keep:∀b o,b≠X.env.locals->b∉X.fs->b∉ch->s.heap.get? b=some o->H b=none->h'.get? b=some o)
  (slot:∀b o,b≠X.env.locals->b∈X.fs->b∉ch->s.heap.get? b=some o->H b=none->∃sl,h'.get? b=some {o with slots:=sl}) (free:∀b o,b∉ch->s.heap.get? b=some o->H b=none->H' b=none)
  (there:∀b o,b∉ch->s.heap.get? b=some o->∃o',h'.get? b=some o')
  (tups:∀b xs,H b=some (.tup xs)->H' b=some (.tup xs)) (frzs:∀b o u,H b=some (.frz o u)->H' b=some (.frz o u)) (tbls:∀b ps,H b=some (.tbl ps)->∃more,H' b=some (.tbl (ps++more)))
  (ns:∀m,s.heap.Ns X.env.locals m->h'.Ns X.env.locals m) (hok:HOk X.prog X.w H' h') (hg:AllBare g'):
  Inv X pins σ H' {s with heap:=h',gens:=g',drawn:=d',toks:=t'}:=by
 have neL:∀b o,X.s₀.heap.get? b=some o->b≠X.env.locals:=fun b o e=>Nat.ne_of_lt (Nat.lt_of_lt_of_le (Heap.lt_size e) I.ok.above)
 have neC:∀b o,X.s₀.heap.get? b=some o->b∉X.ex->b∉ch:=fun b o e hx hb=>by
  rcases (hch b hb).1 with z | z
  ·exact hx z
  ·exact absurd (Nat.lt_of_lt_of_le (Heap.lt_size e) z) (Nat.lt_irrefl _)
 have cellK:∀x c,X.env.cells.lookup x=some c->∀v,s.heap.IsCell c v->h'.IsCell c v:=fun x c e v ⟨o,ho,hd⟩=>by
  have nch:c∉ch:=fun z=>(hch c z).2.2.1 x c e rfl
  by_cases hc:c∈X.fs
  ·obtain⟨sl,q⟩:=slot c o (I.cne x c e) hc nch ho (I.freeC x c e)
   exact⟨_,q,hd⟩
  ·exact⟨o,keep c o (I.cne x c e) hc nch ho (I.freeC x c e),hd⟩
 refine⟨I.ok,I.os,hg,⟨fun b o e n hb hx=> ?_,fun b o e n hb hx=> ?_,fun b o e n hx=> ?_,fun b o e hx=> ?_,fun b xs e=>tups b xs (I.base.tups b xs e),fun b o xs e=>frzs b o xs (I.base.frzs b o xs e),fun b ps e=> ?_⟩,?_,fun x c e=> ?_,?_,fun x c e=> ?_,fun p hp=> ?_,hok,I.len⟩
 ·exact keep b o (neL b o e) hb (neC b o e hx) (I.base.keep b o e n hb hx) (I.base.free b o e n hx)
 ·obtain⟨sl,e1⟩:=I.base.slot b o e n hb hx
  obtain⟨sl',e2⟩:=slot b _ (neL b o e) hb (neC b o e hx) e1 (I.base.free b o e n hx)
  exact⟨sl',e2⟩
 ·obtain⟨o',e1⟩:=I.base.there b o e hx
  exact free b o' (neC b o e hx) e1 (I.base.free b o e n hx)
 ·obtain⟨o',e1⟩:=I.base.there b o e hx
  exact there b o' (neC b o e hx) e1
 ·obtain⟨m1,e1⟩:=I.base.tbls b ps e
  obtain⟨m2,e2⟩:=tbls b _ e1
  exact⟨m1++m2,by rw[e2,Array.append_assoc]⟩
 ·obtain⟨m,hn,hl⟩:=I.loc
  refine⟨m,ns m hn,fun i x v e1 e2 e3=> ?_⟩
  obtain⟨u,r,l⟩:=hl i x v e1 e2 e3
  refine⟨u,r,?_⟩
  rcases l with l | ⟨k,c,e,z⟩
  ·exact .inl l
  ·exact .inr ⟨k,c,e,cellK x c e _ z⟩
 ·obtain⟨v,z⟩:=I.cell x c e
  exact⟨v,cellK x c e v z⟩
 ·obtain⟨m,⟨o,_,_,ho,_⟩,_⟩:=I.loc
  exact free _ o (fun z=>(hch _ z).2.1 rfl) ho I.free
 ·obtain⟨v,o,ho,hd⟩:=I.cell x c e
  exact free c o (fun z=>(hch c z).2.2.1 x c e rfl) ho (I.freeC x c e)
 ·obtain⟨e,n,ne,nf,d⟩:=I.pin p hp
  have nch:p.1∉ch:=fun z=>(hch p.1 z).2.2.2 p hp rfl
  exact⟨keep p.1 p.2 ne nf nch e n,free p.1 p.2 nch e n,ne,nf,d⟩
theorem Inv.un {t':Nat} (I:Inv X pins σ H s) (u:Un X.fs [] H H' s.heap h') (hok:HOk X.prog X.w H' h'):Inv X pins σ H' {s with heap:=h',toks:=t'}:=by
 obtain⟨m,⟨o,es,ep,ho,r⟩,_⟩:=id I.loc
 obtain⟨sl,hL⟩:=u.any ho I.free (by simp)
 exact I.step (g':=s.gens) (d':=s.drawn) (ch:=[]) (fun _ z=>nomatch z) (fun b o _ hb _ e n=>u.keep b o e n hb (by simp)) (fun b o _ hb _ e n=>u.slot b o e n hb (by simp)) (fun b o _ e n=>u.free b o e n (by simp)) (fun b o _ e=>u.there b o e (by simp)) u.tups u.frzs u.tbls (fun m' hm=>by
  obtain⟨o',es',ep',ho',r'⟩:=hm
  rw[ho] at ho';cases ho'
  exact⟨_,es',ep',hL,r'⟩) hok I.bare
theorem Inv.call {g':Array GenState} {t':Nat} {d':Drawn} {ch:List Addr} (I:Inv X pins σ H s) (u:Un (frs X.stack) ch H H' s.heap h') (hok:HOk X.prog X.w H' h') (hg:AllBare g')
  (hch:∀b∈ch,(b∈X.ex\/X.s₀.heap.objs.size<=b)/\b≠X.env.locals/\(∀x c,X.env.cells.lookup x=some c->c≠b)/\∀p∈X.pn++pins,p.1≠b):
  Inv X pins σ H' {s with heap:=h',gens:=g',drawn:=d',toks:=t'}:=by
 obtain⟨m,⟨o,es,ep,ho,r⟩,_⟩:=id I.loc
 obtain⟨sl,hL⟩:=u.any ho I.free fun z=>(hch _ z).2.1 rfl
 exact I.step (ch:=ch) hch (fun b o hL hb hc e n=>u.keep b o e n (fun z=>(List.mem_cons.mp (I.stkSub b z)).elim hL hb) hc) (fun b o _ _ hc e n=>u.any e n hc) (fun b o hc e n=>u.free b o e n hc) (fun b o hc e=>u.there b o e hc) u.tups u.frzs u.tbls (fun m' hm=>by
  obtain⟨o',es',ep',ho',r'⟩:=hm
  rw[ho] at ho';cases ho'
  exact⟨_,es',ep',hL,r'⟩) hok hg
theorem Inv.turned {t':Nat} {it:Addr} (I:Inv X pins σ H s) (k:∀b o,b≠it->s.heap.get? b=some o->h'.get? b=some o) (hn:H it=none) (hL:it≠X.env.locals)
  (h1:it∈X.ex\/X.s₀.heap.objs.size<=it) (h2:∀x c,X.env.cells.lookup x=some c->c≠it) (h3:∀p∈X.pn++pins,p.1≠it):Inv X pins σ H {s with heap:=h',toks:=t'}:=by
 have nit:∀b u,H b=some u->b≠it:=fun b u e z=>by rw[z,hn] at e;cases e
 refine I.step (g':=s.gens) (d':=s.drawn) (ch:=[it]) (fun b hb=> ?_) (fun b o _ _ hc e _=>k b o (fun z=>hc (by simp[z])) e) (fun b o _ _ hc e _=>⟨o.slots,k b o (fun z=>hc (by simp[z])) e⟩) (fun _ _ _ _ n=>n)
  (fun b o hc e=>⟨o,k b o (fun z=>hc (by simp[z])) e⟩) (fun _ _ e=>e) (fun _ _ _ e=>e) (fun b ps e=>⟨#[],by rw[e];simp⟩) (fun m hm=> ?_) (fun b u e=> ?_) I.bare
 ·have e:b=it:=by simpa using hb
  subst e
  exact⟨h1,hL,h2,h3⟩
 ·obtain⟨o,es,ep,ho,r⟩:=hm
  exact⟨o,es,ep,k _ o (Ne.symm hL) ho,r⟩
 ·refine (I.hok b u e).stay (fun c v hc q=>k c v ?_ q) (fun _ q=>q) fun _ _ q=>q
  rcases hc with z | z
  ·rw[z];exact nit b u e
  ·exact nit c _ z
theorem Inv.tok (I:Inv X pins σ H s) (t:Nat):Inv X pins σ H {s with toks:=t}:=I.un (h':=s.heap) (t':=t) Un.refl I.hok
theorem Inv.kept {t':Nat} (I:Inv X pins σ H s) (k:∀b u,s.heap.get? b=some u->h'.get? b=some u):Inv X pins σ H {s with heap:=h',toks:=t'}:=I.un (Un.kept k) (I.hok.kept k)
theorem Inv.laid {a:Addr} {o:HO} {t':Nat} (I:Inv X pins σ H s) (k:∀b u,s.heap.get? b=some u->h'.get? b=some u) (hp:s.heap.objs.size<=a) (new:ObjOk X.prog X.w (upd H a o) h' a o):
  Inv X pins σ (upd H a o) {s with heap:=h',toks:=t'}:=I.un (Un.laid k hp (I.hok.fresh hp)) (I.hok.laid k hp new)
theorem Inv.write {x e:Addr} {o:HO} {t':Nat} (I:Inv X pins σ H s) (mu:Mut (H x)) (he:e=x\/H e=some (.own x)) (k:∀b u,b≠e->s.heap.get? b=some u->h'.get? b=some u) (heo:∃u,h'.get? e=some u)
  (new:ObjOk X.prog X.w (upd H x o) h' x o):Inv X pins σ (upd H x o) {s with heap:=h',toks:=t'}:=I.un (Un.write mu he k heo) (I.hok.write mu he k heo new)
theorem Inv.weak {σ':List (Option V)} (I:Inv X pins σ H s) (hl:σ'.length=σ.length) (w:∀(i:Nat) v,σ'[i]? =some (some v)->σ[i]? =some (some v)):Inv X pins σ' H s:=
 ⟨I.ok,I.os,I.bare,I.base,let ⟨m,hn,hl'⟩:=I.loc;⟨m,hn,fun i x v e1 e2 e3=>hl' i x v e1 (w i v e2) e3⟩,I.cell,I.free,I.freeC,I.pin,I.hok,hl.trans I.len⟩
theorem Inv.pins_of {pins':List (Addr×Obj)} (I:Inv X pins σ H s) (h:∀p∈pins',s.heap.get? p.1=some p.2/\H p.1=none/\p.1≠X.env.locals/\p.1∉X.fs/\∀v,p.2.data≠ .cell v):Inv X pins' σ H s:=
 ⟨I.ok,I.os,I.bare,I.base,I.loc,I.cell,I.free,I.freeC,fun p hp=>(List.mem_append.mp hp).elim (fun z=>I.pin p (List.mem_append_left _ z)) (h p),I.hok,I.len⟩
theorem kJ3 {N:List Str} (hN:N.Nodup) {i j:Nat} {x:Str} (a:N[i]? =some x) (b:N[j]? =some x):i=j:=by
 obtain⟨h1,e1⟩:=List.getElem?_eq_some_iff.mp a
 obtain⟨h2,e2⟩:=List.getElem?_eq_some_iff.mp b
 exact (List.getElem_inj hN).mp (e1.trans e2.symm)
theorem kX6 {M:Model} {A:Around} {E:Value->Shared->Prop} {i:Nat} {x:Str} {v:V} {u:Value} {Q:Unit->Shared->Prop} (I:Inv X pins σ H s) (hN:X.N.Nodup) (hi:X.N[i]? =some x) (hx:Loc X.env.scope x) (r:RelV v u)
  (h:∀s',Inv X pins (σ.set i (some v)) H s'->(∃a,Heap.SameBut a s.heap s'.heap/\(a=X.env.locals\/X.env.cells.lookup x=some a))->Q () s') (hf:X.fn x=true\/X.env.scope.names.lookup x=some .local:=by first | exact .inl rfl | exact .inr rfl | assumption):wpAny M A (storeName X.env x u) Q E s:=by
 obtain⟨m,hn,hl⟩:=id I.loc
 have hcls:(X.env.scope.kind == .class||(X.env.scope.kind == .module&&X.env.locals != X.env.globals))=false:=by rw[I.ok.kind];rfl
 have hiσ:i<σ.length:=by rw[I.len];exact (List.getElem?_eq_some_iff.mp hi).1
 have cne:=I.cne
 have tracked:∀ {a:Addr} {h':Heap},(∃o,s.heap.get? a=some o/\H a=none)->Heap.SameBut a s.heap h'->HOk X.prog X.w H h':=fun {a h'} ha hs b ob e=>by
  obtain⟨_,_,hfree⟩:=ha
  refine (I.hok b ob e).stay (fun c w' hc q=>(hs.2 c ?_).trans q) (fun _ q=>q) fun _ _ q=>q
  rintro rfl
  rcases hc with rfl | hc
  ·rw[hfree] at e;cases e
  ·rw[hfree] at hc;cases hc
 rcases hx with hk | hk
 ·refine wpAny_storeName_local hk hn (fun h' hn' hs=> ?_) hcls
  obtain⟨oL,_,_,hoL,_⟩:=id hn
  refine h _ ⟨I.ok,I.os,I.bare,⟨fun b o e n hb hx=> ?_,fun b o e n hb hx=> ?_,I.base.free,fun b o e hx=> ?_,I.base.tups,I.base.frzs,I.base.tbls⟩,⟨_,hn',fun j y v' e1 e2 e3=> ?_⟩,fun y c e=> ?_,I.free,I.freeC,fun p hp=> ?_,tracked ⟨oL,hoL,I.free⟩ hs,by simpa using I.len⟩ ⟨_,hs,.inl rfl⟩
  ·exact (hs.2 b (Nat.ne_of_lt (Nat.lt_of_lt_of_le (Heap.lt_size e) I.ok.above))).trans (I.base.keep b o e n hb hx)
  ·obtain⟨sl,e1⟩:=I.base.slot b o e n hb hx
   exact⟨sl,(hs.2 b (Nat.ne_of_lt (Nat.lt_of_lt_of_le (Heap.lt_size e) I.ok.above))).trans e1⟩
  ·obtain⟨o',e1⟩:=I.base.there b o e hx
   exact⟨o',(hs.2 b (Nat.ne_of_lt (Nat.lt_of_lt_of_le (Heap.lt_size e) I.ok.above))).trans e1⟩
  ·by_cases hj:j=i
   ·subst hj
    rw[hi] at e1;cases e1
    rw[List.getElem?_set_self hiσ] at e2
    cases e2
    exact⟨u,r,.inl ⟨hk,by simp⟩⟩
   ·rw[List.getElem?_set_ne (Ne.symm hj)] at e2
    obtain⟨u',r',q⟩:=hl j y v' e1 e2 e3
    refine⟨u',r',?_⟩
    rcases q with ⟨k,e⟩ | ⟨k,c,e,z⟩
    ·refine .inl ⟨k,?_⟩
     have:y≠x:=fun e=>hj (kJ3 hN e1 (e▸hi))
     simp[this,e]
    ·exact .inr ⟨k,c,e,z.sameBut hs (cne y c e)⟩
  ·obtain⟨w',z⟩:=I.cell y c e
   exact⟨w',z.sameBut hs (cne y c e)⟩
  ·obtain⟨e,n,ne,nf,d⟩:=I.pin p hp
   exact⟨(hs.2 p.1 ne).trans e,n,ne,nf,d⟩
 ·have hfn:X.fn x=true:=by
   rcases hf with z | z
   ·exact z
   ·rw[z] at hk;cases hk
  obtain⟨c,hc⟩:=I.ok.has x (.inl hk)
  obtain⟨w',z⟩:=I.cell x c hc
  refine wpAny_storeName_cell I.ok.kind hk hc z (fun h' hc' hs=> ?_)
  obtain⟨oc,hoc,hocd⟩:=id z
  refine h {s with heap:=h'} ⟨I.ok,I.os,I.bare,⟨fun b o e n hb hx=> ?_,fun b o e n hb hx=> ?_,I.base.free,fun b o e hx=> ?_,I.base.tups,I.base.frzs,I.base.tbls⟩,⟨m,hn.sameBut hs (Ne.symm (cne x c hc)),fun j y v' e1 e2 e3=> ?_⟩,fun y c' e=> ?_,I.free,I.freeC,fun p hp=> ?_,tracked ⟨oc,hoc,I.freeC x c hc⟩ hs,by simpa using I.len⟩ ⟨c,hs,.inr hc⟩
  ·exact (hs.2 b (Nat.ne_of_lt (Nat.lt_of_lt_of_le (Heap.lt_size e) (I.ok.cab x c hfn hc)))).trans (I.base.keep b o e n hb hx)
  ·obtain⟨sl,e1⟩:=I.base.slot b o e n hb hx
   exact⟨sl,(hs.2 b (Nat.ne_of_lt (Nat.lt_of_lt_of_le (Heap.lt_size e) (I.ok.cab x c hfn hc)))).trans e1⟩
  ·obtain⟨o',e1⟩:=I.base.there b o e hx
   exact⟨o',(hs.2 b (Nat.ne_of_lt (Nat.lt_of_lt_of_le (Heap.lt_size e) (I.ok.cab x c hfn hc)))).trans e1⟩
  ·by_cases hj:j=i
   ·subst hj
    rw[hi] at e1;cases e1
    rw[List.getElem?_set_self hiσ] at e2
    cases e2
    exact⟨u,r,.inr ⟨.inl hk,c,hc,hc'⟩⟩
   ·rw[List.getElem?_set_ne (Ne.symm hj)] at e2
    obtain⟨u',r',q⟩:=hl j y v' e1 e2 e3
    refine⟨u',r',?_⟩
    rcases q with q | ⟨k,c',e,z'⟩
    ·exact .inl q
    ·refine .inr ⟨k,c',e,z'.sameBut hs ?_⟩
     rintro rfl
     exact hj (kJ3 hN e1 (I.ok.inj _ _ _ e hc▸hi))
  ·by_cases hcc:c'=c
   ·subst hcc;exact⟨_,hc'⟩
   ·obtain⟨w2,z2⟩:=I.cell y c' e
    exact⟨w2,z2.sameBut hs hcc⟩
  ·obtain⟨e,n,ne,nf,d⟩:=I.pin p hp
   refine⟨(hs.2 p.1 ?_).trans e,n,ne,nf,d⟩
   intro q
   rw[q,hoc] at e
   have q':oc=p.2:=Option.some.inj e
   exact d w' (by rw[<-q'];exact hocd)
theorem jV1 {M:Model} {A:Around} {E:Value->Shared->Prop} {i:Nat} {x:Str} {v:V} {u:Value} {Q:Unit->Shared->Prop} (I:Inv X pins σ H s) (hN:X.N.Nodup) (hi:X.N[i]? =some x) (hx:Loc X.env.scope x) (r:RelV v u)
  (h:∀s',Inv X pins (σ.set i (some v)) H s'->Q () s') (hf:X.fn x=true\/X.env.scope.names.lookup x=some .local:=by first | exact .inl rfl | exact .inr rfl | assumption):wpAny M A (storeName X.env x u) Q E s:=
 kX6 I hN hi hx r (fun s' I' _=>h s' I') hf
theorem Inv.call' {s':Shared} {ch:List Addr} (I:Inv X pins σ H s) (ho:s'.os=s.os) (u:Un (frs X.stack) ch H H' s.heap s'.heap) (hok:HOk X.prog X.w H' s'.heap) (hg:AllBare s'.gens)
  (hch:∀b∈ch,(b∈X.ex\/X.s₀.heap.objs.size<=b)/\b≠X.env.locals/\(∀x c,X.env.cells.lookup x=some c->c≠b)/\∀p∈X.pn++pins,p.1≠b):Inv X pins σ H' s':=by
 obtain⟨h',g',d',t',o'⟩:=s'
 have e:o'=s.os:=ho
 subst e
 exact I.call (g':=g') (t':=t') (d':=d') u hok hg hch
end
abbrev XK:=Value->Option Addr->Hp->Prop
abbrev St:=List (Option V)
abbrev VK:=V->Hp->Prop
abbrev TE:=St->Hp->VK->Prop
abbrev TT:=St->Hp->(Bool->Hp->Prop)->Prop
abbrev TA:=St->Hp->(List V->Hp->Prop)->Prop
structure Ends where
 nx:St->Hp->Prop
 rt:VK
 bk:St->Hp->Prop:=fun _ _=>False
 ct:St->Hp->Prop:=fun _ _=>False
abbrev TS:=Ends->St->Hp->Prop
def EP (X:Cx) (pins:List (Addr×Obj)) (σ:St) (Q:VK) (u:Value) (s':Shared):Prop:=∃v H',Inv X pins σ H' s'/\RelV v u/\Q v H'
noncomputable def SP (X:Cx) (pins:List (Addr×Obj)) (D:Ends) (f:Flow) (s':Shared):Prop:=
 match f with
 | .next=>∃ σ' H',Inv X pins σ' H' s'/\D.nx σ' H'
 | .brk=>∃ σ' H',Inv X pins σ' H' s'/\D.bk σ' H'
 | .cont=>∃ σ' H',Inv X pins σ' H' s'/\D.ct σ' H'
 | .ret u=>∃v σ' H',Inv X pins σ' H' s'/\RelV v u/\D.rt v H'
noncomputable def PE (X:Cx) (e:Expr) (t:TE):Prop:=
 ∀(pins:List (Addr×Obj)) (s:Shared) (σ:St) (H:Hp) (Q:VK),Inv X pins σ H s->t σ H Q->wpAny (model X.prog X.w) X.A (eval e X.env) (EP X pins σ Q) X.xe s
noncomputable def PSs (X:Cx) (st:List Stmt) (t:TS):Prop:=
 ∀(pins:List (Addr×Obj)) (s:Shared) (σ:St) (H:Hp) (D:Ends),Inv X pins σ H s->t D σ H->wpAny (model X.prog X.w) X.A (execs st X.env) (SP X pins D) X.xe s
theorem thn {α:Type} {t:Sem α} {Q Q':α->Shared->Prop} {M:Model} {A:Around} {E:Value->Shared->Prop} {s:Shared} (h:wpAny M A t Q E s) (hQ:∀a s,Q a s->Q' a s):wpAny M A t Q' E s:=wpAny_mono h hQ fun _ _ x=>x
section
variable {X:Cx}
def tVar (i:Nat):TE:=fun σ H Q=>∃v,σ[i]? =some (some v)/\Q v H
def tC (v:V):TE:=fun _ H Q=>Q v H
theorem pe_var {i:Nat} {x:Str} {pos:Pos} (hN:X.N[i]? =some x) (hv:Vis X.env.scope x) (hd:(x == ("__debug__":Str))=false:=by decide) (hcd:(x == ("__classdict__":Str))=false:=by decide):PE X (.Name x pos) (tVar i):=by
 intro pins s σ H Q I h
 obtain⟨v,e,h⟩:=h
 obtain⟨m,hn,hl⟩:=I.loc
 obtain⟨u,r,l⟩:=hl i x v hN e hv
 have fin:EP X pins σ Q u s:=⟨v,H,I,r,h⟩
 rcases l with ⟨hk,hm⟩ | ⟨hk,c,hc,hcell⟩
 ·exact wpAny_Name (wpAny_loadName_local I.ok.kind hk hn hm fin) hd
 ·rcases hk with hk | hk
  ·exact wpAny_Name (wpAny_loadName_cell I.ok.kind hk hc hcell fin) hd
  ·exact wpAny_Name (wpAny_loadName_free I.ok.kind hk hc hcell fin hcd) hd
theorem pe_int {i j pos}:PE X (.Constant (.int i) j pos) (tC (.int i)):=fun _ _ _ H _ I h=>wpAny_Constant_int ⟨.int i,H,I.tok _,⟨_,rfl⟩,h⟩
theorem pe_bl {b j pos}:PE X (.Constant (.bool b) j pos) (tC (.bl b)):=fun _ _ _ H _ I h=>Constant_bool ⟨.bl b,H,I,rfl,h⟩
theorem pe_non {j pos}:PE X (.Constant .none j pos) (tC .non):=fun _ _ _ H _ I h=>Constant_none ⟨.non,H,I,rfl,h⟩
theorem pe_str {x j pos}:PE X (.Constant (.str x) j pos) (tC (.str x)):=fun _ _ _ H _ I h=>Calls.Constant_str ⟨.str x,H,I.tok _,⟨_,rfl⟩,h⟩
def Gl (X:Cx) (x:Str):Prop:=X.env.kindOf x=some .globalImplicit
theorem jVw {E:Value->Shared->Prop} {pins:List (Addr×Obj)} {s:Shared} {σ:St} {H:Hp} {x:Str} {u:Value} {pos:Pos} {Q:Value->Shared->Prop} (I:Inv X pins σ H s) (hg:Gl X x) (hm:X.mg x=some u) (h:Q u s)
  (hd:(x == ("__debug__":Str))=false:=by decide):wpAny (model X.prog X.w) X.A (eval (.Name x pos) X.env) Q E s:=
 Calls.Name_function_global I.ok.kind hg (Calls.loadGlobal_global (by rw[I.ok.glob];exact I.mod.glob.keeps I.bk) hm h) hd
theorem jQ1 {E:Value->Shared->Prop} {pins:List (Addr×Obj)} {s:Shared} {σ:St} {H:Hp} {x:Str} {u:Value} {pos:Pos} {Q:Value->Shared->Prop} (I:Inv X pins σ H s) (hg:Gl X x) (hm:X.mg x=none) (hv:bootBuiltins x=some u) (h:Q u s)
  (hn:x≠"__name__":=by decide) (hd:(x == ("__debug__":Str))=false:=by decide):wpAny (model X.prog X.w) X.A (eval (.Name x pos) X.env) Q E s:=by
 obtain⟨mb,h1,h2⟩:=I.mod.blt
 exact Calls.Name_function_global I.ok.kind hg (Calls.loadGlobal_builtin (by rw[I.ok.glob];exact I.mod.glob.keeps I.bk) hm (by rw[I.ok.blt];exact h1.keeps I.bk) ((h2 x hn).trans hv) h) hd
theorem qUx {x:Str} {v:V} {u:Value} {pos:Pos} (hg:Gl X x) (hm:X.mg x=none) (hv:bootBuiltins x=some u) (r:RelV v u) (hn:x≠"__name__":=by decide) (hd:(x == ("__debug__":Str))=false:=by decide):PE X (.Name x pos) (tC v):=
 fun _ _ _ H _ I h=>jQ1 I hg hm hv ⟨v,H,I,r,h⟩ hn hd
variable {a b:Expr} {ta tb:TE} {pos:Pos}
def tB (t:TE):TT:=fun σ H Q=>t σ H fun x H1=>∃c,x= .bl c/\Q c H1
variable {tA tB':TT} {rest:List Expr}
def tOrV (ta tb:TE):TE:=fun σ H Q=>ta σ H fun x H1=>∃c,x= .bl c/\if c=true then Q (.bl true) H1 else tb σ H1 Q
def tIf (t:TT) (ta tb:TE):TE:=fun σ H Q=>t σ H fun c H1=>if c=true then ta σ H1 Q else tb σ H1 Q
end
noncomputable def SqL (K:PySem.W.Frag) (H:Hp) (a:Addr) (xs:List V):Prop:=
 Rd H a (.lst xs)\/
  ∃(o:Obj) (its:Array Value) (n:Nat),K.lookup a=some o/\o.cls= .type "list"/\o.dict=none/\o.data= .seq its n/\its.size<=sizeLine/\Vals xs its.toList
noncomputable def SqT (K:PySem.W.Frag) (H:Hp) (a:Addr) (xs:List V):Prop:=
 Rd H a (.tup xs)\/
  ∃(o:Obj) (its:Array Value) (n:Nat),K.lookup a=some o/\o.cls= .type "tuple"/\o.data= .seq its n/\its.size<=sizeLine/\Vals xs its.toList
noncomputable def absV:Value->Option V
 | .none=>some .non
 | .bool b=>some (.bl b)
 | .int i _=>some (.int i)
 | .str x _=>some (.str x)
 | .bytes b _=>some (.byt b)
 | .float b _=>some (.flt b)
 | .ref a=>some (.ref a)
 | .type n=>some (.ty n)
 | _=>none
theorem RelV.abs {x:V} {u:Value} (r:RelV x u):absV u=some x:=by
 cases x with
 | non=>cases r;rfl
 | bl _=>cases r;rfl
 | int _=>obtain⟨t,rfl⟩:=r;rfl
 | str _=>obtain⟨t,rfl⟩:=r;rfl
 | byt _=>obtain⟨t,rfl⟩:=r;rfl
 | flt _=>obtain⟨t,rfl⟩:=r;rfl
 | ref _=>cases r;rfl
 | ty _=>cases r;rfl
theorem RelV.inj {x y:V} {u:Value} (r:RelV x u) (q:RelV y u):x=y:=Option.some.inj (r.abs.symm.trans q.abs)
theorem Vals.inj {xs ys:List V} {us:List Value} (h:Vals xs us) (g:Vals ys us):xs=ys:=by
 induction h generalizing ys with
 | nil=>(cases g;rfl)
 | cons r _ ih=>(cases g with | cons r' t'=>rw[r.inj r',ih t'])
section
variable {X:Cx} {pins:List (Addr×Obj)} {σ:St} {H:Hp} {s:Shared} {a:Addr} {xs ys:List V}
theorem SqL.of {K:PySem.W.Frag} (h:H a=some (.lst xs)):SqL K H a xs:= .inl (.inl h)
theorem SqT.of {K:PySem.W.Frag} (h:H a=some (.tup xs)):SqT K H a xs:= .inl (.inl h)
theorem Inv.list (I:Inv X pins σ H s) (h:SqL X.K H a xs):∃its:List Value,Vals xs its/\PlainL s.heap a its.toArray/\xs.length<=sizeLine:=by
 rcases h with h | ⟨o,its,n,hk,hc,hd,hs,hz,r⟩
 ·obtain⟨z,its,n,r,e⟩:=h.ok I.hok
  exact⟨its,r,⟨_,n,e,rfl,rfl,rfl⟩,z⟩
 ·refine⟨its.toList,r,⟨o,n,I.kIn a o hk,hc,hd,by simpa using hs⟩,?_⟩
  have e:=r.length
  simp only[Array.length_toList] at e
  omega
theorem Inv.tuple (I:Inv X pins σ H s) (h:SqT X.K H a xs):∃its:List Value,Vals xs its/\IsTup s.heap a its.toArray/\xs.length<=sizeLine:=by
 rcases h with h | ⟨o,its,n,hk,hc,hs,hz,r⟩
 ·obtain⟨z,its,r,p⟩:=h.ok I.hok
  exact⟨its,r,p.is,z⟩
 ·refine⟨its.toList,r,⟨o,I.kIn a o hk,hc,n,by simpa using hs⟩,?_⟩
  have e:=r.length
  simp only[Array.length_toList] at e
  omega
theorem Inv.list_inj (I:Inv X pins σ H s) (h:SqL X.K H a xs) (h':SqL X.K H a ys):xs=ys:=by
 obtain⟨its,r,⟨o,n,e,_,_,d⟩,_⟩:=I.list h
 obtain⟨its',r',⟨o',n',e',_,_,d'⟩,_⟩:=I.list h'
 rw[e] at e';cases e'
 rw[d] at d'
 injection d' with d1 _
 have:its=its':=by simpa using congrArg Array.toList d1
 subst this
 exact r.inj r'
theorem Inv.tuple_inj (I:Inv X pins σ H s) (h:SqT X.K H a xs) (h':SqT X.K H a ys):xs=ys:=by
 obtain⟨its,r,⟨o,e,_,n,d⟩,_⟩:=I.tuple h
 obtain⟨its',r',⟨o',e',_,n',d'⟩,_⟩:=I.tuple h'
 rw[e] at e';cases e'
 rw[d] at d'
 injection d' with d1 _
 have:its=its':=by simpa using congrArg Array.toList d1
 subst this
 exact r.inj r'
end
abbrev Cx.wish (X:Cx) (E:Value->Shared->Prop):Cx:={X with xe:=E}
abbrev Cx.nox (X:Cx):Cx:=X.wish fun _ _=>False
theorem Cx.Ok.wish {X:Cx} (ok:X.Ok) (E:Value->Shared->Prop):(X.wish E).Ok:=
 ⟨ok.mod,ok.kind,ok.glob,ok.blt,ok.above,ok.inj,ok.has,ok.cab,ok.hd,ok.gd,ok.frames,ok.stk,ok.exf,ok.bs,ok.bsz,ok.noex,ok.exfs,ok.funs,ok.frf⟩
theorem Cx.Ok.unwish {X:Cx} {E:Value->Shared->Prop} (ok:(X.wish E).Ok):X.Ok:=
 ⟨ok.mod,ok.kind,ok.glob,ok.blt,ok.above,ok.inj,ok.has,ok.cab,ok.hd,ok.gd,ok.frames,ok.stk,ok.exf,ok.bs,ok.bsz,ok.noex,ok.exfs,ok.funs,ok.frf⟩
section
variable {X:Cx} {pins:List (Addr×Obj)} {σ:St} {H:Hp} {s:Shared} {E:Value->Shared->Prop}
theorem Inv.wish (I:Inv X pins σ H s) (E:Value->Shared->Prop):Inv (X.wish E) pins σ H s:=⟨I.ok.wish E,I.os,I.bare,I.base,I.loc,I.cell,I.free,I.freeC,I.pin,I.hok,I.len⟩
theorem Inv.unwish (I:Inv (X.wish E) pins σ H s):Inv X pins σ H s:=⟨I.ok.unwish,I.os,I.bare,I.base,I.loc,I.cell,I.free,I.freeC,I.pin,I.hok,I.len⟩
theorem SP.unwish {D:Ends} {f:Flow} {s':Shared} (h:SP (X.wish E) pins D f s'):SP X pins D f s':=by
 cases f with
 | next=>obtain⟨σ',H',I,q⟩:=h;exact⟨σ',H',I.unwish,q⟩
 | brk=>obtain⟨σ',H',I,q⟩:=h;exact⟨σ',H',I.unwish,q⟩
 | cont=>obtain⟨σ',H',I,q⟩:=h;exact⟨σ',H',I.unwish,q⟩
 | ret u=>obtain⟨v,σ',H',I,r,q⟩:=h;exact⟨v,σ',H',I.unwish,r,q⟩
theorem PSs.nox {st:List Stmt} {t:TS} (h:PSs X.nox st t):PSs X st t:=fun pins s σ H D I hw=>
 wpAny_mono (h pins s σ H D (I.wish _) hw) (fun _ _ q=>q.unwish) fun _ _ z=>False.elim z
end
section
variable {X:Cx} {st:Stmt} {rest:List Stmt} {t u:TS} {e:Expr} {te:TE} {pos:Pos}
theorem Inv.quiet {pins:List (Addr×Obj)} {σ:St} {H:Hp} {s:Shared} (I:Inv X pins σ H s):interactive X.env=false:=by simp[interactive,I.ok.kind]
def tRetN:TS:=fun D _ H=>D.rt .non H
end
abbrev TSet:=V->V->V->Hp->(Hp->Prop)->Prop
noncomputable def PSet (X:Cx) (t:TSet):Prop:=
 ∀(pins:List (Addr×Obj)) (s:Shared) (σ:St) (H:Hp) (o i v:V) (ov iv u:Value) (Q:Hp->Prop),Inv X pins σ H s->RelV o ov->RelV i iv->RelV v u->t o i v H Q->
  wpAny (model X.prog X.w) X.A (setItem ov iv u) (fun _ s'=>∃H',Inv X pins σ H' s'/\Q H') X.xe s
section
variable {X:Cx} {pos:Pos}
def tPar (i j:Nat) (ta:TA):TS:=fun D σ H=>ta σ H fun vs H1=>∃v w,vs=[v,w]/\D.nx ((σ.set i (some v)).set j (some w)) H1
end
section
variable {X:Cx} {pos:Pos}
end
structure It where
 go:Nat->Hp->Prop
 yld:Nat->Hp->V->Hp->Prop
 stop:Nat->Hp->Prop
noncomputable def FpOk (X:Cx) (pins:List (Addr×Obj)) (H:Hp) (b:Addr):Prop:=
 H b=none/\b≠X.env.locals/\b∉X.fs/\(b∈X.ex\/X.s₀.heap.objs.size<=b)/\(∀x c,X.env.cells.lookup x=some c->c≠b)/\∀p∈X.pn++pins,p.1≠b
theorem Inv.fpOk {X:Cx} {pins:List (Addr×Obj)} {σ:St} {H H':Hp} {s:Shared} {b:Addr} (I:Inv X pins σ H s) (hb:s.heap.objs.size<=b) (hn:H' b=none):FpOk X pins H' b:=by
 refine⟨hn,Nat.ne_of_gt (Nat.lt_of_lt_of_le I.lt hb),I.nofs hb,.inr (Nat.le_trans I.sz hb),fun x c e z=> ?_,fun p hp z=> ?_⟩
 ·obtain⟨v,q⟩:=I.cell x c e
  exact absurd (Nat.lt_of_lt_of_le q.lt (by rw[z];exact hb)) (Nat.lt_irrefl _)
 ·exact absurd (Nat.lt_of_lt_of_le (Heap.lt_size (I.pin p hp).1) (by rw[z];exact hb)) (Nat.lt_irrefl _)
structure Turn (P:Program) (w:World) (K:PySem.W.Frag) (tg:Expr) (J:It) (fp:List Addr) (it:Addr) (tn:Nat->Heap->Prop):Prop where
 mem:it∈fp
 obj:∀i h,tn i h->∀b∈fp,∃o,h.get? b=some o/\∀v,o.data≠ .cell v
 keep:∀i h h',tn i h->(∀b∈fp,∀o,h.get? b=some o->h'.get? b=some o)->tn i h'
 item:∀(X:Cx),X.prog=P->X.w=w->X.K=K->X.calm=true->∀(i:Nat) (pins:List (Addr×Obj)) (s:Shared) (σ:St) (H:Hp) (E:Value->Shared->Prop),Inv X pins σ H s->(∀b∈fp,FpOk X pins H b)->tn i s.heap->J.go i H->
  wpAny (model P w) X.A (pyNext (.ref it)) (fun r s1=>∃u,r=some u/\
   wpAny (model P w) X.A (letOwnedTupleGo tg (.ref it) u) (fun _ s2=>∃x H',Inv X pins σ H' s2/\RelV x u/\J.yld i H x H'/\tn (i+1) s2.heap/\∀b∈fp,H' b=none) E s1) E s
 done:∀(X:Cx),X.prog=P->X.w=w->X.K=K->X.calm=true->∀(i:Nat) (pins:List (Addr×Obj)) (s:Shared) (σ:St) (H:Hp) (E:Value->Shared->Prop),Inv X pins σ H s->(∀b∈fp,FpOk X pins H b)->tn i s.heap->J.stop i H->
  wpAny (model P w) X.A (pyNext (.ref it)) (fun r s1=>r=none/\Inv X pins σ H s1) E s
 self:∀(A:Around) (i:Nat) (s:Shared) (Q:Value->Shared->Prop) (E:Value->Shared->Prop),tn i s.heap->Q (.ref it) s->wpAny (model P w) A (pyIter (.ref it)) Q E s
abbrev TI:=St->Hp->(It->Hp->Prop)->Prop
noncomputable def PIE (X:Cx) (pins:List (Addr×Obj)) (σ:St) (tg:Expr) (R:It->Hp->Prop) (itv:Value) (s2:Shared):Prop:=
 ∃(it:Addr) (fp:List Addr) (tn:Nat->Heap->Prop) (J:It) (H':Hp),itv= .ref it/\Inv X pins σ H' s2/\Turn X.prog X.w X.K tg J fp it tn/\tn 0 s2.heap/\(∀b∈fp,FpOk X pins H' b)/\R J H'
theorem kZo {M:Model} {A:Around} {E:Value->Shared->Prop} {s:Shared} {tg:Expr} {it:Addr} {u:Value} {o:Obj} {n:String} {vs:Array Value} {Q:Unit->Shared->Prop} (ho:s.heap.get? it=some o) (hc:o.cls= .type n) (hd:o.data= .fields vs)
  (hn:["enumerate","zip","dict_itemiterator","dict_reverseitemiterator","odict_iterator","itertools.zip_longest","itertools.pairwise"].contains n=false) (hQ:Q () s):wpAny M A (letOwnedTupleGo tg (.ref it) u) Q E s:=by
 unfold letOwnedTupleGo
 cases tg<;>first
  | exact wpAny_pure hQ
  | (cases u<;>first
    | exact wpAny_pure hQ
    | (refine wpAny_bind (wpAny_load ho ?_)
       rw[hc,hd]
       show wpAny M A (if (["enumerate","zip","dict_itemiterator","dict_reverseitemiterator","odict_iterator","itertools.zip_longest","itertools.pairwise"].contains n&&vs[0]? == some (rawInt _))=true then _ else _) Q E s
       rw[if_neg (by intro h;rw[hn,Bool.false_and] at h;cases h)]
       exact wpAny_pure hQ))
noncomputable def Itl (K:PySem.W.Frag) (a:Addr):It:=
 ⟨fun i H=>∃xs x,SqL K H a xs/\xs[i]? =some x,fun i H x H'=>H'=H/\∀xs,SqL K H a xs->xs[i]? =some x,fun i H=>∃xs,SqL K H a xs/\xs.length<=i⟩
noncomputable def Itt (K:PySem.W.Frag) (a:Addr):It:=
 ⟨fun i H=>∃xs x,SqT K H a xs/\xs[i]? =some x,fun i H x H'=>H'=H/\∀xs,SqT K H a xs->xs[i]? =some x,fun i H=>∃xs,SqT K H a xs/\xs.length<=i⟩
def Itr (lo:Int) (n:Nat):It:=⟨fun i _=>i<n,fun i H x H'=>H'=H/\x= .int (lo+i),fun i _=>n<=i⟩
theorem kXz {P:Program} {w:World} {K:PySem.W.Frag} {tg:Expr} (a it:Addr):Turn P w K tg (Itl K a) [it] it (fun i h=>h.IsListIter it a i) where
 mem:=by simp
 obj:=fun i h st b hb=>by
  have e:b=it:=by simpa using hb
  subst e
  obtain⟨o,e,c,d⟩:=st
  exact⟨o,e,fun v z=>by rw[d] at z;cases z⟩
 keep:=fun i h h' st k=>st.at fun o e=>k it (by simp) o e
 item:=by
  intro X hP hw hK hc i pins s σ H E I hf st hg
  subst hP hw hK
  obtain⟨xs,x,hq,hx⟩:=hg
  obtain⟨its,rv,p,hz⟩:=I.list hq
  obtain⟨u,hu,ru⟩:=rv.get hx
  obtain⟨f0,f1,f2,f3,f4,f5⟩:=hf it (by simp)
  refine wpAny_pyNext_list_item st p.isList (x:=u) (by simpa using hu) fun h' st' sb=> ?_
  have I1:Inv X pins σ H {s with heap:=h'}:=I.turned (t':=s.toks) (fun b o hb e=>(sb.2 b hb).trans e) f0 f1 f3 f4 f5
  obtain⟨o,e,c,d⟩:=id st'
  exact⟨u,rfl,kZo (s:={s with heap:=h'}) e c d (by decide) ⟨x,H,I1,ru,⟨rfl,fun ys hy=>by rw[I.list_inj hy hq];exact hx⟩,st',fun b hb=>(hf b hb).1⟩⟩
 done:=by
  intro X hP hw hK hc i pins s σ H E I hf st hg
  subst hP hw hK
  obtain⟨xs,hq,hx⟩:=hg
  obtain⟨its,rv,p,hz⟩:=I.list hq
  obtain⟨f0,f1,f2,f3,f4,f5⟩:=hf it (by simp)
  have hl:=rv.length
  exact wpAny_pyNext_list_end (I.ok.hd hc) st p.isList (by simp;omega) fun h' eb=>⟨rfl,I.turned (t':=s.toks) (fun b o hb e=>eb b o hb e) f0 f1 f3 f4 f5⟩
 self:=fun _ _ _ _ _ st h=>wpAny_pyIter_listiter st h
theorem kV0 {P:Program} {w:World} {K:PySem.W.Frag} {tg:Expr} (a it:Addr):Turn P w K tg (Itt K a) [it] it (fun i h=>h.IsTupleIter it a i) where
 mem:=by simp
 obj:=fun i h st b hb=>by
  have e:b=it:=by simpa using hb
  subst e
  obtain⟨o,e,c,d⟩:=st
  exact⟨o,e,fun v z=>by rw[d] at z;cases z⟩
 keep:=fun i h h' st k=>st.at fun o e=>k it (by simp) o e
 item:=by
  intro X hP hw hK hc i pins s σ H E I hf st hg
  subst hP hw hK
  obtain⟨xs,x,hq,hx⟩:=hg
  obtain⟨its,rv,p,hz⟩:=I.tuple hq
  obtain⟨u,hu,ru⟩:=rv.get hx
  obtain⟨f0,f1,f2,f3,f4,f5⟩:=hf it (by simp)
  refine wpAny_pyNext_tuple_item st (show s.heap.IsTuple a its.toArray from p) (x:=u) (by simpa using hu) fun h' st' sb=> ?_
  have I1:Inv X pins σ H {s with heap:=h'}:=I.turned (t':=s.toks) (fun b o hb e=>(sb.2 b hb).trans e) f0 f1 f3 f4 f5
  obtain⟨o,e,c,d⟩:=id st'
  exact⟨u,rfl,kZo (s:={s with heap:=h'}) e c d (by decide) ⟨x,H,I1,ru,⟨rfl,fun ys hy=>by rw[I.tuple_inj hy hq];exact hx⟩,st',fun b hb=>(hf b hb).1⟩⟩
 done:=by
  intro X hP hw hK hc i pins s σ H E I hf st hg
  subst hP hw hK
  obtain⟨xs,hq,hx⟩:=hg
  obtain⟨its,rv,p,hz⟩:=I.tuple hq
  obtain⟨f0,f1,f2,f3,f4,f5⟩:=hf it (by simp)
  have hl:=rv.length
  exact wpAny_pyNext_tuple_end (I.ok.hd hc) st (show s.heap.IsTuple a its.toArray from p) (by simp;omega) fun h' eb=>⟨rfl,I.turned (t':=s.toks) (fun b o hb e=>eb b o hb e) f0 f1 f3 f4 f5⟩
 self:=fun _ _ _ _ _ st h=>wpAny_pyIter_tupleiter st h
theorem kV1 {P:Program} {w:World} {K:PySem.W.Frag} {tg:Expr} (it:Addr) (lo:Int) (n:Nat):Turn P w K tg (Itr lo n) [it] it (fun i h=>IsRangeIter h it (lo+(i:Nat)*1) ((n:Int)-(i:Nat)) 1) where
 mem:=by simp
 obj:=fun i h st b hb=>by
  have e:b=it:=by simpa using hb
  subst e
  exact⟨_,st,fun v z=>by
   have z':Data.fields _=Data.cell v:=z
   cases z'⟩
 keep:=fun i h h' st k=>k it (by simp) _ st
 item:=by
  intro X hP hw hK hc i pins s σ H E I hf st hg
  subst hP hw hK
  obtain⟨f0,f1,f2,f3,f4,f5⟩:=hf it (by simp)
  have W:=Walks.range (prog:=X.prog) (w:=X.w) (I.ok.hd hc) it lo 1 n
  refine W.item i s _ _ hg st fun v h' tk hv st' kk=> ?_
  obtain⟨t,rfl⟩:=hv
  have I1:Inv X pins σ H {s with heap:=h',toks:=tk}:=I.turned (fun b o hb e=>kk b o (by simpa using hb) e) f0 f1 f3 f4 f5
  refine⟨_,rfl,kZo (s:={s with heap:=h',toks:=tk}) (n:="range_iterator") st' rfl rfl (by decide) ⟨.int (lo+i),H,I1,⟨t,?_⟩,⟨rfl,rfl⟩,st',fun b hb=>(hf b hb).1⟩⟩
  rw[Int.mul_one]
 done:=by
  intro X hP hw hK hc i pins s σ H E I hf st hg
  subst hP hw hK
  obtain⟨f0,f1,f2,f3,f4,f5⟩:=hf it (by simp)
  exact wpAny_pyNext_range_end (I.ok.hd hc) st (by have:n<=i:=hg;omega) fun h' eb=>⟨rfl,I.turned (t':=s.toks) (fun b o hb e=>eb b o hb e) f0 f1 f3 f4 f5⟩
 self:=fun _ _ _ _ _ st h=>wpAny_pyIter_rangeiter st h
section
variable {X:Cx} {tg:Expr}
theorem kU8 {pins:List (Addr×Obj)} {σ:St} {H:Hp} {s:Shared} {R:It->Hp->Prop} {E:Value->Shared->Prop} {lo hi:Int} {t u v:Tok} {tk:Nat} (I:Inv X pins σ H s) (h1: -(2^62)<=lo) (h2:lo<2^62) (h3: -(2^62)<=hi) (h4:hi<2^62)
  (q:R (Itr lo (hi-lo).toNat) H):wpAny (model X.prog X.w) X.A (pyIter (.ref s.heap.objs.size)) (PIE X pins σ tg R) E {s with heap:=s.heap.push {cls:= .type "range",data:= .fields #[.int lo t,.int hi u,.int 1 v]},toks:=tk}:=by
 refine wpAny_pyIter_range (IsRange.new ..) (small_one h1 h2 h3 h4) ?_
 have I1:Inv X pins σ H {s with heap:=s.heap.push {cls:= .type "range",data:= .fields #[.int lo t,.int hi u,.int 1 v]},toks:=tk}:=I.kept fun b o e=>Heap.get?_push_of_some _ e
 refine⟨(s.heap.push {cls:= .type "range",data:= .fields #[.int lo t,.int hi u,.int 1 v]}).objs.size,[(s.heap.push {cls:= .type "range",data:= .fields #[.int lo t,.int hi u,.int 1 v]}).objs.size],_,_,H,rfl,
  I1.kept (t':=tk) fun b o e=>Heap.get?_push_of_some _ e,kV1 _ lo (hi-lo).toNat,?_,fun b hb=> ?_,q⟩
 ·have e1:lo+((0:Nat):Int)*1=lo:=by simp
  have e2:(((hi-lo).toNat:Nat):Int)-((0:Nat):Int)=Builtin.Range.rangeSize lo hi 1:=by rw[rangeSize_one];split<;>omega
  show IsRangeIter _ _ (lo+((0:Nat):Int)*1) ((((hi-lo).toNat:Nat):Int)-((0:Nat):Int)) 1
  rw[e1,e2]
  exact Heap.get?_push_size _ rfl
 ·have e:b=(s.heap.push {cls:= .type "range",data:= .fields #[.int lo t,.int hi u,.int 1 v]}).objs.size:=by simpa using hb
  subst e
  exact I1.fpOk (Nat.le_refl _) (I1.hok.fresh (Nat.le_refl _))
def jVk (fp:List Addr) (h:Heap):List (Addr×Obj):=fp.filterMap fun b=>(h.get? b).map fun o=>(b,o)
theorem jVf {fp:List Addr} {h:Heap} {b:Addr} {o:Obj} (hb:b∈fp) (e:h.get? b=some o):(b,o)∈jVk fp h:=List.mem_filterMap.mpr ⟨b,hb,by rw[e];rfl⟩
theorem kY2 {fp:List Addr} {h:Heap} {p:Addr×Obj} (hp:p∈jVk fp h):p.1∈fp/\h.get? p.1=some p.2:=by
 obtain⟨b,hb,e⟩:=List.mem_filterMap.mp hp
 cases q:h.get? b with
 | none=>rw[q] at e;cases e
 | some o=>
  rw[q] at e
  have e':(b,o)=p:=Option.some.inj e
  subst e'
  exact⟨hb,q⟩
theorem Inv.pinned {pins:List (Addr×Obj)} {σ:St} {H:Hp} {s:Shared} {fp:List Addr} (I:Inv X pins σ H s) (hf:∀b∈fp,FpOk X pins H b) (ho:∀b∈fp,∃o,s.heap.get? b=some o/\∀v,o.data≠ .cell v):Inv X (pins++jVk fp s.heap) σ H s:=
 I.pins_of fun p hp=>(List.mem_append.mp hp).elim (fun z=>I.pin p (List.mem_append_right _ z)) fun z=>by
  obtain⟨hb,e⟩:=kY2 z
  obtain⟨f0,f1,f2,_⟩:=hf p.1 hb
  obtain⟨o,e',d⟩:=ho p.1 hb
  rw[e] at e';cases e'
  exact⟨e,f0,f1,f2,d⟩
theorem Inv.unpinned {pins pl:List (Addr×Obj)} {σ:St} {H:Hp} {s:Shared} (I:Inv X (pins++pl) σ H s):Inv X pins σ H s:=I.pins_of fun p hp=>I.pin p (List.mem_append_right _ (List.mem_append_left _ hp))
end
abbrev R2:=V->V->Hp->VK->Prop
noncomputable def OpR (X:Cx) (f:Value->Value->Sem Value) (r:R2):Prop:=
 ∀(pins:List (Addr×Obj)) (s:Shared) (σ:St) (H:Hp) (x y:V) (v u:Value) (Q:VK),Inv X pins σ H s->RelV x v->RelV y u->r x y H Q->
  wpAny (model X.prog X.w) X.A (f v u) (EP X pins σ Q) X.xe s
noncomputable def kQo (X:Cx) (f:Value) (r:List V->Hp->VK->Prop):Prop:=
 ∀(pins:List (Addr×Obj)) (s:Shared) (σ:St) (H:Hp) (xs:List V) (us:List Value) (Q:VK),Inv X pins σ H s->Vals xs us->r xs H Q->
  wpAny (model X.prog X.w) X.A (call f us) (EP X pins σ Q) X.xe s
def tUn (r:V->Hp->VK->Prop) (ta:TE):TE:=fun σ H Q=>ta σ H fun x H1=>r x H1 Q
def rI (C:Int->Int->Prop) (g:Int->Int->V):R2:=fun x y H Q=>∃i j,x= .int i/\y= .int j/\C i j/\Q (g i j) H
def rI0 (g:Int->Int->V):R2:=fun x y H Q=>∃i j,x= .int i/\y= .int j/\Q (g i j) H
section
variable {X:Cx} {a b c:Expr} {ta tb tc:TE} {pos:Pos}
theorem opI {f:Value->Value->Sem Value} {C:Int->Int->Prop} {g:Int->Int->Int}
  (rule:∀(i j:Int) (t u:Tok) (s:Shared) (Q:Value->Shared->Prop) (E:Value->Shared->Prop),C i j->Q (.int (g i j) s.toks) {s with toks:=s.toks+1}->wpAny (model X.prog X.w) X.A (f (.int i t) (.int j u)) Q E s):
  OpR X f (rI C fun i j=> .int (g i j)):=by
 intro pins s σ H x y v u Q I rx ry h
 obtain⟨i,j,rfl,rfl,hc,q⟩:=h
 obtain⟨t,rfl⟩:=rx
 obtain⟨t',rfl⟩:=ry
 exact rule i j t t' s _ _ hc ⟨.int (g i j),H,I.tok _,⟨_,rfl⟩,q⟩
theorem opI0 {f:Value->Value->Sem Value} {g:Int->Int->Int}
  (rule:∀(i j:Int) (t u:Tok) (s:Shared) (Q:Value->Shared->Prop) (E:Value->Shared->Prop),Q (.int (g i j) s.toks) {s with toks:=s.toks+1}->wpAny (model X.prog X.w) X.A (f (.int i t) (.int j u)) Q E s):
  OpR X f (rI0 fun i j=> .int (g i j)):=by
 intro pins s σ H x y v u Q I rx ry h
 obtain⟨i,j,rfl,rfl,q⟩:=h
 obtain⟨t,rfl⟩:=rx
 obtain⟨t',rfl⟩:=ry
 exact rule i j t t' s _ _ ⟨.int (g i j),H,I.tok _,⟨_,rfl⟩,q⟩
theorem opB0 {f:Value->Value->Sem Value} {g:Int->Int->Bool}
  (rule:∀(i j:Int) (t u:Tok) (s:Shared) (Q:Value->Shared->Prop) (E:Value->Shared->Prop),Q (.bool (g i j)) s->wpAny (model X.prog X.w) X.A (f (.int i t) (.int j u)) Q E s):
  OpR X f (rI0 fun i j=> .bl (g i j)):=by
 intro pins s σ H x y v u Q I rx ry h
 obtain⟨i,j,rfl,rfl,q⟩:=h
 obtain⟨t,rfl⟩:=rx
 obtain⟨t',rfl⟩:=ry
 exact rule i j t t' s _ _ ⟨.bl (g i j),H,I,rfl,q⟩
def CDiv (i j:Int):Prop:=0<j/\j<1073741824
def CPow (i j:Int):Prop:=0<=j/\j<=1000000/\i.natAbs<2^64
def CMul (i j:Int):Prop:=(-(2^64)<i/\i<2^64)\/(-(2^64)<j/\j<2^64)
theorem CMul.ok {i j:Int} (h:CMul i j):IntMulOk i j:=by
 rcases h with ⟨h1,h2⟩ | ⟨h1,h2⟩
 ·exact .of_left (intBits_le_64 h1 h2)
 ·exact .of_right (intBits_le_64 h1 h2)
theorem op_add:OpR X (binaryOp .Add) (rI0 fun i j=> .int (i+j)):=opI0 fun _ _ _ _ _ _ _ q=>add_int q
theorem op_sub:OpR X (binaryOp .Sub) (rI0 fun i j=> .int (i-j)):=opI0 fun _ _ _ _ _ _ _ q=>sub_int q
theorem op_mul:OpR X (binaryOp .Mult) (rI CMul fun i j=> .int (i*j)):=opI fun _ _ _ _ _ _ _ hc q=>mul_int q hc.ok
theorem qUz:OpR X (binaryOp .FloorDiv) (rI CDiv fun i j=> .int (i / j)):=opI fun i j _ _ _ _ _ hc q=>by
 have h1:(0:Int)<j:=hc.1
 have h2:j<1073741824:=hc.2
 exact floordiv_int (by omega) (by rw[Int.fdiv_eq_ediv_of_nonneg i (by omega)];exact q) (.inl (PyProof.noPylong_small (by omega)))
theorem op_mod:OpR X (binaryOp .Mod) (rI (fun _ j=>0<j) fun i j=> .int (i%j)):=opI fun i j _ _ _ _ _ hc q=>by
 have h1:(0:Int)<j:=hc
 exact mod_int' (by omega) (by rw[Int.fmod_eq_emod_of_nonneg i (by omega)];exact q)
theorem op_pow:OpR X (binaryOp .Pow) (rI CPow fun i j=> .int (i^j.toNat)):=opI fun _ _ _ _ _ _ _ hc q=>pow_int_small hc.1 hc.2.1 hc.2.2 q
end
section
variable {X:Cx} {a b c:Expr} {ta tb tc:TE} {pos:Pos}
theorem op_lt:OpR X (compareOp .Lt) (rI0 fun i j=> .bl (decide (i<j))):=opB0 fun _ _ _ _ _ _ _ q=>lt_int q
theorem op_le:OpR X (compareOp .LtE) (rI0 fun i j=> .bl (decide (i<=j))):=opB0 fun _ _ _ _ _ _ _ q=>le_int q
theorem op_gt:OpR X (compareOp .Gt) (rI0 fun i j=> .bl (decide (j<i))):=opB0 fun _ _ _ _ _ _ _ q=>gt_int q
theorem op_ge:OpR X (compareOp .GtE) (rI0 fun i j=> .bl (decide (j<=i))):=opB0 fun _ _ _ _ _ _ _ q=>ge_int q
theorem nomark (b:Expr) {op:CmpOp} (h:op≠ .In:=by decide) (h2:op≠ .NotIn:=by decide):behindInMarks op b=false:=by
 have e1:(op == CmpOp.In)=false:=by cases op<;>first | rfl | exact absurd rfl h
 have e2:(op == CmpOp.NotIn)=false:=by cases op<;>first | rfl | exact absurd rfl h2
 cases b<;>simp[behindInMarks,e1,e2]
theorem kK0:(sizeLine:Nat)<2^63:=by rw[sizeLine_eq];decide
theorem kVz {x:V} {us:List Value} (r:Vals [x] us):∃u,us=[u]/\RelV x u:=by
 cases r with
 | cons r1 r2=>cases r2;exact⟨_,rfl,r1⟩
theorem vals2 {x y:V} {us:List Value} (r:Vals [x,y] us):∃u w',us=[u,w']/\RelV x u/\RelV y w':=by
 cases r with
 | cons r1 r2=>
  cases r2 with
  | cons r3 r4=>cases r4;exact⟨_,_,rfl,r1,r3⟩
theorem qJi (hc:X.calm=true):kQo X (.builtin "max") (fun xs H Q=>∃i j,xs=[.int i,.int j]/\Q (.int (if j>i then j else i)) H):=by
 intro pins s σ H xs us Q I r h
 obtain⟨i,j,rfl,q⟩:=h
 obtain⟨u,w',rfl,⟨t,rfl⟩,⟨t',rfl⟩⟩:=vals2 r
 refine max_two_ints (I.ok.hd hc) fun h' tk k=>⟨_,H,I.kept k,?_,q⟩
 by_cases hj:j>i
 ·rw[if_pos hj,if_pos hj];exact⟨_,rfl⟩
 ·rw[if_neg hj,if_neg hj];exact⟨_,rfl⟩
theorem qJg (hc:X.calm=true):kQo X (.builtin "min") (fun xs H Q=>∃i j,xs=[.int i,.int j]/\Q (.int (if j<i then j else i)) H):=by
 intro pins s σ H xs us Q I r h
 obtain⟨i,j,rfl,q⟩:=h
 obtain⟨u,w',rfl,⟨t,rfl⟩,⟨t',rfl⟩⟩:=vals2 r
 refine min_two_ints (I.ok.hd hc) fun h' tk k=>⟨_,H,I.kept k,?_,q⟩
 by_cases hj:j<i
 ·rw[if_pos hj,if_pos hj];exact⟨_,rfl⟩
 ·rw[if_neg hj,if_neg hj];exact⟨_,rfl⟩
theorem qJj:kQo X (.type "int") (fun xs H Q=>(∃i,xs=[.int i]/\Q (.int i) H)\/∃k,xs=[.bl k]/\Q (.int (if k then 1 else 0)) H):=by
 intro pins s σ H xs us Q I r h
 rcases h with ⟨i,rfl,q⟩ | ⟨k,rfl,q⟩
 ·obtain⟨u,rfl,t,rfl⟩:=kVz r
  exact call_int_int ⟨.int i,H,I,⟨_,rfl⟩,q⟩
 ·obtain⟨u,rfl,r1⟩:=kVz r
  cases r1
  exact call_int_bool ⟨.int (if k then 1 else 0),H,I.tok _,⟨_,rfl⟩,q⟩
end
structure ObjM (h:Heap) (x dx C:Addr) (mA:Str->Option Value):Prop where
 obj:h.get? x=some (PySem.W.instObj C dx)
 ns:h.Ns1 dx mA
 ne:dx≠x
theorem kY8 {h:Heap} {dx:Addr} {mA:Str->Option Value} (n:h.Ns1 dx mA):∃od,h.get? dx=some od/\∀name,PySem.W.lookIn name od=some (mA name):=by
 obtain⟨o,es,ep,ho,hd,hk,_,hm⟩:=n
 refine⟨o,ho,fun name=> ?_⟩
 have e:=hm name
 unfold nsFind findBy at e
 rw[<-Array.find?_toList] at e
 unfold PySem.W.lookIn
 rw[hd]
 dsimp only
 split
 ·rename_i y q
  rw[q] at e
  exact congrArg some e
 ·rename_i q
  rw[q] at e
  have a:es.toList.any (·.refKey)=false:=by
   rw[List.any_eq_false]
   intro y hy
   obtain⟨z,t,hkey⟩:=hk y (Array.mem_toList_iff.mp hy)
   simp[DictEntry.refKey,hkey]
  have a':¬ es.toList.any (·.refKey)=true:=by rw[a];exact Bool.false_ne_true
  rw[if_neg a']
  exact congrArg some e
theorem ObjM.look {h:Heap} {x dx C:Addr} {mA:Str->Option Value} (I:ObjM h x dx C mA):∃od,PySem.W.InstAt h x (PySem.W.instObj C dx) C (some od)/\∀name,PySem.W.lookIn name od=some (mA name):=
 let ⟨od,ho,hl⟩:=kY8 I.ns
 ⟨od,⟨I.obj,rfl,rfl,ho⟩,hl⟩
section
variable {prog:Program} {w:World} {A:Around} {E:Value->Shared->Prop} {s:Shared} {K:PySem.W.Frag} {x dx C f:Addr} {mA:Str->Option Value} {name:Str} {v:Value}
theorem qVn {expr:Bool} {Q:Value->Shared->Prop} (X:K.In s.heap) (I:ObjM s.heap x dx C mA) (hg:PySem.W.plainGet K C name=true) (hh:PySem.W.hasDictIn K C=true)
  (ha:PySem.W.findIn K (.ref C) name=some none) (hv:mA name=some v) (hv':PySem.W.handedIn v=true) (h:Q v {s with toks:=s.toks+1}):
  wpAny (model prog w) A (getAttr (.ref x) name expr) Q E s:=by
 obtain⟨od,J,hl⟩:=I.look
 exact PySem.W.get_value X J (PySem.W.plainGet_of hg).1 (PySem.W.findObj_own hh ha rfl (by rw[hl,hv])) hv' h
theorem qQe {pl:Sem Bool} {Q:Value×List Value->Shared->Prop} (X:K.In s.heap) (I:ObjM s.heap x dx C mA) (hg:PySem.W.plainGet K C name=true)
  (hf:PySem.W.findIn K (.ref C) name=some (some (.ref f))) (ht:PySem.W.isFn K (.ref f)=true) (hv:mA name=none) (h:Q (.ref f,[.ref x]) s):
  wpAny (model prog w) A (getMethod (.ref x) name pl) Q E s:=by
 obtain⟨od,J,hl⟩:=I.look
 exact PySem.W.method_fn X J (PySem.W.plainGet_of hg).1 (PySem.W.plainGet_of hg).2 hf (beq_iff_eq.mp ht) (by show (PySem.W.lookIn name od).map (·.isSome)=some false;rw[hl,hv];rfl) h
theorem qUm {ns:List Str} {Q:Unit->Shared->Prop} (X:K.In s.heap) (I:ObjM s.heap x dx C mA)
  (hs:PySem.W.findIn K (.ref C) "__setattr__"=some (some (.builtin "object.__setattr__"))) (hp:PySem.W.plainOver K C=true) (ht:PySem.W.takerIn K C name=some none) (hh:PySem.W.hasDictIn K C=true)
  (hw:PySem.Within mA ns) (hsz:ns.length<=sizeLine)
  (h:∀h',ObjM h' x dx C (fun y=>if y=name then some v else mA y)->Heap.SameBut dx s.heap h'->Q () {s with heap:=h',toks:=s.toks+2}):
  wpAny (model prog w) A (setAttr (.ref x) name v) Q E s:=by
 obtain⟨od,J,hl⟩:=I.look
 refine PySem.W.set_plain X J hs (PySem.W.osa_open (s:={s with toks:=s.toks+1}) (r:=none) X J hp ht fun b=> ?_)
 obtain⟨cd,hc,hd'⟩:=PySem.W.any_some hh
 have hx:s.heap.get? x=some ⟨.ref C,some dx,.plain,#[]⟩:=I.obj
 refine wpAny_bind (wpAny_pure (wpAny_bind (wpAny_bind (wpAny_loadPart hx (wpAny_bind (PySem.W.Looks.here (s:={s with toks:=s.toks+1}) (PySem.W.looks_clsIn X hc) ?_))))))
 rw[hd']
 refine wpAny_pure (a:=some dx) (wpAny_bind (wpAny_pure (wpAny_bind ?_)))
 refine wpAny_nsSet1 (s:={s with toks:=s.toks+1}) I.ns fun h' hn2 hs2=> ?_
 obtain⟨oD,esD,epD,hoD,hdD,hcD⟩:=hn2.count (PySem.Within.cons name v hw)
 refine wpAny_bind (wpAny_lookBehind hoD (by rw[hdD];exact pastItsLine_dict (Nat.le_trans hcD (by rw[List.length_cons];omega))) ?_)
 exact wpAny_pure (h _ ⟨(hs2.2 _ (Ne.symm I.ne)).trans I.obj,hn2,I.ne⟩ hs2)
theorem qK1 {R:Result->Shared->Prop} {vs:List Value} {kw:List (Str×Value)} (X:K.In s.heap) (hm:PySem.W.makesIn K C=true)
  (hi:PySem.W.findIn K (.ref C) "__init__"=some (some (.ref f))) (hf:PySem.W.typeIn K (.ref f)=some (.type "function"))
  (h:codeAny (model prog w) (A.under (.builtin "type.__call__" ⟨.ref C::vs,kw⟩)) (.call (.ref f) ⟨.ref (s.heap.objs.size+1)::vs,kw⟩) (PySem.W.InitBack (s.heap.objs.size+1) R)
   {s with heap:=(s.heap.push PySem.W.emptyDict).push (PySem.W.instObj C s.heap.objs.size)}):
  codeAny (model prog w) A (.call (.ref C) ⟨vs,kw⟩) R s:=by
 obtain⟨hh,g,d,t,os⟩:=s
 exact PySem.W.make_core (PySem.W.makes_of X hm) (PySem.W.looks_findIn X hi) (fun self=>PySem.W.bind_fn X self hf) (.inl rfl) h
end
def putF (f:Str) (v:V):List (Str×V)->List (Str×V)
 | []=>[(f,v)]
 | (g,x)::r=>if g=f then (g,v)::r else (g,x)::putF f v r
theorem jZg (f g:Str) (v:V):∀fs:List (Str×V),(putF f v fs).lookup g=if g=f then some v else fs.lookup g
 | []=>by
  show List.lookup g [(f,v)]=_
  by_cases h:g=f
  ·have hb:(g == f)=true:=beq_iff_eq.mpr h
   simp only[List.lookup,hb,if_pos h]
  ·have hb:(g == f)=false:=beq_eq_false_iff_ne.mpr h
   simp only[List.lookup,hb,if_neg h]
 | (k,x)::r=>by
  have ih:=jZg f g v r
  rw[show putF f v ((k,x)::r)=(if k=f then (k,v)::r else (k,x)::putF f v r) from rfl]
  by_cases hk:k=f
  ·rw[if_pos hk]
   by_cases h:g=k
   ·have hb:(g == k)=true:=beq_iff_eq.mpr h
    simp only[List.lookup,hb,if_pos (h.trans hk)]
   ·have hb:(g == k)=false:=beq_eq_false_iff_ne.mpr h
    simp only[List.lookup,hb,if_neg (fun e:g=f=>h (e.trans hk.symm))]
  ·rw[if_neg hk]
   by_cases h:g=k
   ·have hb:(g == k)=true:=beq_iff_eq.mpr h
    simp only[List.lookup,hb,if_neg (fun e:g=f=>hk (h.symm.trans e))]
   ·have hb:(g == k)=false:=beq_eq_false_iff_ne.mpr h
    simp only[List.lookup,hb]
    exact ih
theorem jZi (f:Str) (v:V):∀fs:List (Str×V),f∈(putF f v fs).map (·.1)/\∀g,g∈fs.map (·.1)->g∈(putF f v fs).map (·.1)
 | []=>⟨by simp[putF],fun g h=>by simp at h⟩
 | (k,x)::r=>by
  obtain⟨i1,i2⟩:=jZi f v r
  rw[show putF f v ((k,x)::r)=(if k=f then (k,v)::r else (k,x)::putF f v r) from rfl]
  by_cases hk:k=f
  ·rw[if_pos hk]
   subst hk
   exact⟨by simp,fun g h=>by simpa using h⟩
  ·rw[if_neg hk]
   refine⟨?_,fun g h=> ?_⟩
   ·rw[List.map_cons]
    exact List.mem_cons_of_mem _ i1
   ·rw[List.map_cons] at h ⊢
    rcases (List.mem_cons.mp h) with e | e
    ·exact List.mem_cons.mpr (.inl e)
    ·exact List.mem_cons_of_mem _ (i2 g e)
theorem jZh (f:Str) (v:V):∀fs:List (Str×V),(putF f v fs).length<=fs.length+1
 | []=>by simp[putF]
 | (k,x)::r=>by
  have ih:=jZh f v r
  rw[show putF f v ((k,x)::r)=(if k=f then (k,v)::r else (k,x)::putF f v r) from rfl]
  by_cases hk:k=f
  ·rw[if_pos hk,List.length_cons,List.length_cons];omega
  ·rw[if_neg hk,List.length_cons,List.length_cons];omega
theorem RelO.some_of {v:V} {o:Option Value} (r:RelO (some v) o):∃u,o=some u/\RelV v u:=by
 cases o with
 | none=>exact (show False from r).elim
 | some u=>exact⟨u,rfl,r⟩
theorem RelO.none_of {o:Option Value} (r:RelO none o):o=none:=by
 cases o with
 | none=>rfl
 | some u=>exact (show False from r).elim
theorem kZn {v:V} {u:Value} (r:RelV v u):PySem.W.handedIn u=true:=by
 cases v with
 | non=>cases (show u=Value.none from r);rfl
 | bl b=>cases (show u=Value.bool b from r);rfl
 | int i=>obtain⟨t,e⟩:=(show ∃t,u=Value.int i t from r);cases e;rfl
 | str x=>obtain⟨t,e⟩:=(show ∃t,u=Value.str x t from r);cases e;rfl
 | byt b=>obtain⟨t,e⟩:=(show ∃t,u=Value.bytes b t from r);cases e;rfl
 | flt b=>obtain⟨t,e⟩:=(show ∃t,u=Value.float b t from r);cases e;rfl
 | ref a=>cases (show u=Value.ref a from r);rfl
 | ty n=>cases (show u=Value.type n from r);rfl
section
variable {P:Program} {w:World} {H H':Hp} {h h':Heap} {a C dx:Addr} {fs fs':List (Str×V)}
theorem kUe (hok:HOk P w H h) (e:H a=some (.ins C dx fs)):∃mA,ObjM h a dx C mA/\(∀f,RelO (fs.lookup f) (mA f))/\PySem.Within mA (fs.map (·.1))/\fs.length<=1000/\H dx=some (.own a):=by
 obtain⟨d,z,ne,ob,mA,n,r,q⟩:=(show ObjOk P w H h a (.ins C dx fs) from hok a _ e)
 exact⟨mA,⟨ob,n,ne⟩,r,q,z,d⟩
end
structure Cls (K:PySem.W.Frag) (C:Addr):Prop where
 pg:PySem.W.plainGet K C Str.empty=true
 hd:PySem.W.hasDictIn K C=true
 po:PySem.W.plainOver K C=true
 sa:PySem.W.findIn K (.ref C) "__setattr__"=some (some (.builtin "object.__setattr__"))
theorem Cls.get {K:PySem.W.Frag} {C:Addr} (c:Cls K C) (f:Str):PySem.W.plainGet K C f=true:=c.pg
def NoAttr (K:PySem.W.Frag) (C:Addr) (f:Str):Prop:=PySem.W.findIn K (.ref C) f=some none
theorem NoAttr.taker {K:PySem.W.Frag} {C:Addr} {f:Str} (n:NoAttr K C f):PySem.W.takerIn K C f=some none:=by
 unfold PySem.W.takerIn
 rw[show PySem.W.findIn K (.ref C) f=some none from n]
 rfl
structure Meth (K:PySem.W.Frag) (C:Addr) (m:Str) (f:Addr):Prop where
 at_:PySem.W.findIn K (.ref C) m=some (some (.ref f))
 fn:PySem.W.isFn K (.ref f)=true
 kp:PySem.W.keepIn K (.ref f)=true
section
variable {X:Cx} {pins:List (Addr×Obj)} {σ:St} {H:Hp} {s:Shared} {a C dx:Addr} {fs:List (Str×V)} {f:Str} {v:V} {A:Around} {E:Value->Shared->Prop}
theorem kXj {b:Bool} {Q:Value->Shared->Prop} (I:Inv X pins σ H s) (e:H a=some (.ins C dx fs)) (c:Cls X.K C) (n:NoAttr X.K C f) (l:fs.lookup f=some v)
  (h:∀u s',Inv X pins σ H s'->RelV v u->Q u s'):wpAny (model X.prog X.w) A (getAttr (.ref a) f b) Q E s:=by
 obtain⟨mA,O,r,_,_,_⟩:=kUe I.hok e
 obtain⟨u,hu,ru⟩:=RelO.some_of (v:=v) (o:=mA f) (by rw[<-l];exact r f)
 exact qVn I.kIn O (c.get f) c.hd n hu (kZn ru) (h u _ (I.tok _) ru)
theorem kJf {m:Str} {g:Addr} {pl:Sem Bool} {Q:Value×List Value->Shared->Prop} (I:Inv X pins σ H s) (e:H a=some (.ins C dx fs)) (c:Cls X.K C) (k:Meth X.K C m g) (l:fs.lookup m=none)
  (h:Q (.ref g,[.ref a]) s):wpAny (model X.prog X.w) A (getMethod (.ref a) m pl) Q E s:=by
 obtain⟨mA,O,r,_,_,_⟩:=kUe I.hok e
 have hn:mA m=none:=RelO.none_of (by rw[<-l];exact r m)
 exact qQe I.kIn O (c.get m) k.at_ k.fn hn h
theorem kV3 {y:V} {u:Value} {Q:Unit->Shared->Prop} (I:Inv X pins σ H s) (e:H a=some (.ins C dx fs)) (c:Cls X.K C) (n:NoAttr X.K C f) (hl:fs.length<1000) (ry:RelV y u)
  (h:∀s',Inv X pins σ (upd H a (.ins C dx (putF f y fs))) s'->Q () s'):wpAny (model X.prog X.w) A (setAttr (.ref a) f u) Q E s:=by
 obtain⟨mA,O,r,wi,_,ho⟩:=kUe I.hok e
 have hz:(fs.map (·.1)).length<=sizeLine:=by rw[List.length_map,sizeLine_eq];omega
 refine qUm I.kIn O c.sa c.po n.taker c.hd wi hz fun h' O' sb=>h _ ?_
 have hd:∃o,h'.get? dx=some o:=let ⟨o,_,_,e',_⟩:=O'.ns;⟨o,e'⟩
 refine I.write (x:=a) (e:=dx) (by rw[e];exact True.intro) (.inr ho) (fun b q hb z=>(sb.2 b hb).trans z) hd ?_
 refine⟨by rw[jJz O.ne];exact ho,?_,O.ne,O'.obj,_,O'.ns,fun g=> ?_,fun g hg=> ?_⟩
 ·have:=jZh f y fs;omega
 ·show RelO ((putF f y fs).lookup g) (if g=f then some u else mA g)
  rw[jZg]
  by_cases q:g=f
  ·rw[if_pos q,if_pos q];exact ry
  ·rw[if_neg q,if_neg q];exact r g
 ·by_cases q:g=f
  ·rw[q];exact (jZi f y fs).1
  ·refine (jZi f y fs).2 g (wi g fun z=>hg ?_)
   show (if g=f then some u else mA g)=none
   rw[if_neg q];exact z
theorem Inv.made (I:Inv X pins σ H s):Inv X pins σ (upd (upd H s.heap.objs.size (.own (s.heap.objs.size+1))) (s.heap.objs.size+1) (.ins C s.heap.objs.size []))
  {s with heap:=(s.heap.push PySem.W.emptyDict).push (PySem.W.instObj C s.heap.objs.size)}:=by
 have e1:(s.heap.push PySem.W.emptyDict).get? s.heap.objs.size=some PySem.W.emptyDict:=Heap.get?_push_size s.heap rfl
 have e2:((s.heap.push PySem.W.emptyDict).push (PySem.W.instObj C s.heap.objs.size)).get? (s.heap.objs.size+1)=some (PySem.W.instObj C s.heap.objs.size):=by
  have:=Heap.get?_push_size (s.heap.push PySem.W.emptyDict) (o:=PySem.W.instObj C s.heap.objs.size) rfl
  rwa [Heap.size_push] at this
 have e3:(s.heap.push PySem.W.emptyDict).Ns s.heap.objs.size (fun _=>none):=⟨PySem.W.emptyDict,#[],_,e1,rfl,(fun e he=>absurd he (by simp)),fun _=>rfl⟩
 have I1:=I.laid (a:=s.heap.objs.size) (o:= .own (s.heap.objs.size+1)) (h':=s.heap.push PySem.W.emptyDict) (t':=s.toks) (fun b u q=>Heap.get?_push_of_some _ q) (Nat.le_refl _) ⟨_,e1⟩
 refine I1.laid (a:=s.heap.objs.size+1) (o:= .ins C s.heap.objs.size []) (t':=s.toks) (fun b u q=>Heap.get?_push_of_some _ q) (Nat.le_of_eq (Heap.size_push _ _)) ?_
 have ne:s.heap.objs.size≠s.heap.objs.size+1:=Nat.ne_of_lt (Nat.lt_succ_self _)
 refine⟨by rw[jJz ne,jJ8],Nat.zero_le _,ne,e2,fun _=>none,(Heap.Ns1.of_empty e3).at fun o q=>Heap.get?_push_of_some _ q,fun _=>True.intro,fun y hy=>absurd rfl hy⟩
theorem qV7 {prog:Program} {w:World} {env:Env} {e:Expr} {f:Str} {pos:Pos} {s:Shared} {Q:Value->Shared->Prop} (hb:attributeBase e f env (eval e env)=eval e env)
  (h:wpAny (model prog w) A (eval e env) (fun o s₁=>wpAny (model prog w) A (getAttr o f true) Q E s₁) E s):wpAny (model prog w) A (eval (.Attribute e f pos) env) Q E s:=
 Attribute_any_ h (by rw[arm_eval_Attribute,hb])
end
section
variable {X:Cx} {o e value:Expr} {f:Str} {pos pos' tpos:Pos} {ta tv:TE}
end
section
variable {X:Cx} {pins:List (Addr×Obj)} {σ:St} {H:Hp} {s:Shared} {A:Around} {E:Value->Shared->Prop} {Q:Value->Shared->Prop} {c:Value} {b:Bool}
end
structure Room (k:Nat) (A:Around):Prop where
 hd:A.handled=none
 gd:A.guards=some []
 dp:A.depth+3*k+5<recursionLimit
 un:A.units+16*k+200<cLine
theorem Room.mono {j k:Nat} {A:Around} (r:Room k A) (h:j<=k):Room j A:=⟨r.hd,r.gd,by have:=r.dp;omega,by have:=r.un;omega⟩
theorem Room.deeper {k:Nat} {A:Around} (r:Room (k+1) A) (env:Env):Room k (A.deeper env):=
 ⟨r.hd,r.gd,by have:=r.dp;show A.depth+1+3*k+5<_;omega,by have:=r.un;show A.units+3+16*k+200<_;omega⟩
theorem kXe {A:Around} {C:Addr} {us:List Value} {kw:List (Str×Value)}:(A.under (.builtin "type.__call__" ⟨.ref C::us,kw⟩)).depth=A.depth+1:=by
 first | rfl | simp[Around.under,Code.weight,Code.isCreation,Code.isGuard,Code.isCaller,Code.frames,Code.isFrame,guardIds]
theorem kXd {A:Around} {C:Addr} {us:List Value} {kw:List (Str×Value)}:(A.under (.builtin "type.__call__" ⟨.ref C::us,kw⟩)).units=A.units+1:=by
 first | rfl | simp[Around.under,Code.cUnits,Code.frames,Code.isFrame]
theorem Room.make {k:Nat} {A:Around} (r:Room (k+1) A) (C:Addr) (us:List Value) (kw:List (Str×Value)):Room k (A.under (.builtin "type.__call__" ⟨.ref C::us,kw⟩)):=
 ⟨r.hd,r.gd,by have:=r.dp;rw[kXe];omega,by have:=r.un;rw[kXd];omega⟩
theorem Room.depth {k:Nat} {A:Around} (r:Room k A):A.depth<recursionLimit:=by have:=r.dp;omega
theorem Room.units {k:Nat} {A:Around} (r:Room k A):A.units+64<cLine:=by have:=r.un;omega
section
variable {X:Cx} {e:Expr} {es:List Expr} {te:TE} {t:TA} {pos:Pos}
end
abbrev Sp:=List V->Hp->VK->XK->Prop
abbrev CXT:=List Env->Hp->Shared->XK->Value->Shared->Prop
structure Env0 (P:Program) (w:World) (K:PySem.W.Frag) (mg:Str->Option Value) (base:Heap) (A:Around) (outer:List Env) (s:Shared) (H:Hp):Prop where
 frames:A.frames=some outer
 mod:Mod K mg base
 bs:∀b o,base.get? b=some o->s.heap.get? b=some o/\H b=none
 bsz:base.objs.size<=s.heap.objs.size
 funs:s.heap.FunFrames base outer
 frf:∀b∈frs outer,H b=none
 hok:HOk P w H s.heap
 bare:AllBare s.gens
noncomputable def CE (outer:List Env) (P:Program) (w:World) (H:Hp) (s:Shared) (Q:VK) (u:Value) (s':Shared):Prop:=
 ∃v H',s'.os=s.os/\AllBare s'.gens/\Un (frs outer) [] H H' s.heap s'.heap/\HOk P w H' s'.heap/\RelV v u/\Q v H'
noncomputable def CR (CX:CXT) (outer:List Env) (P:Program) (w:World) (H:Hp) (s:Shared) (Q:VK) (E:XK) (r:Result) (s':Shared):Prop:=
 match r with
 | .ok (.ret u)=>CE outer P w H s Q u s'
 | .ok _=>False
 | .error e=>CX outer H s E e s'
structure FnOk (P:Program) (w:World) (K:PySem.W.Frag) (mg:Str->Option Value) (base:Heap) (CX:CXT) (k:Nat) (f:Addr) (fd:FuncData) (ps:List Str) (sp:Sp):Prop where
 len:∀vs H Q E,sp vs H Q E->vs.length=ps.length
 run:∀(A:Around) (outer:List Env) (s:Shared) (H:Hp) (args:Args) (us:List Value) (vs:List V) (Q:VK) (E:XK),Room k A->Env0 P w K mg base A outer s H->BindsTo s fd args (ps.zip us)->Vals vs us->sp vs H Q E->
  codeAny (model P w) A (.call (.ref f) args) (CR CX outer P w H s Q E) s
theorem Env0.make {P:Program} {w:World} {K:PySem.W.Frag} {mg:Str->Option Value} {base:Heap} {A:Around} {outer:List Env} {s:Shared} {H:Hp} (e:Env0 P w K mg base A outer s H) (C:Addr) (us:List Value) (kw:List (Str×Value)):
  Env0 P w K mg base (A.under (.builtin "type.__call__" ⟨.ref C::us,kw⟩)) outer s H:=⟨by first | exact e.frames | (simpa[Around.under,Code.envs,Code.isFrame,pushEnvs] using e.frames),e.mod,e.bs,e.bsz,e.funs,e.frf,e.hok,e.bare⟩
section
variable {X:Cx} {pins:List (Addr×Obj)} {σ:St} {H:Hp} {s s':Shared}
theorem Inv.env0 (I:Inv X pins σ H s):Env0 X.prog X.w X.K X.mg X.base X.A X.stack s H:=
 ⟨I.ok.frames,I.ok.mod,I.bs,Nat.le_trans I.ok.bsz I.sz,I.stack,I.stkFree,I.hok,I.bare⟩
theorem Inv.after {Q:VK} {u:Value} (I:Inv X pins σ H s) (h:CE X.stack X.prog X.w H s Q u s'):EP X pins σ Q u s':=by
 obtain⟨v,H',os,bare,un,hok,r,q⟩:=h
 obtain⟨hh,g,d,t,os'⟩:=s'
 obtain rfl:os'=s.os:=os
 exact⟨v,H',I.call (h':=hh) (g':=g) (d':=d) (t':=t) (ch:=[]) un hok bare (fun b z=>absurd z (by simp)),r,q⟩
end
noncomputable def Binds (K:PySem.W.Frag) (fd:FuncData) (ps:List Str) (ds:List Value):Prop:=
 ∀(s:Shared) (us:List Value),K.In s.heap->(us++ds).length=ps.length->BindsTo s fd ⟨us,[]⟩ (ps.zip (us++ds))
theorem Binds.all {K:PySem.W.Frag} {fd:FuncData} {ps:List Str} (h:∀us:List Value,us.length=ps.length->bindArgs fd ⟨us,[]⟩=pure (ps.zip us)):Binds K fd ps []:=fun s us _ hl=>by
 rw[List.append_nil] at hl ⊢
 exact .of_eq (h us hl)
def qJp (CX:CXT) (X:Cx) (E:XK):Prop:=∀(pins:List (Addr×Obj)) (σ:St) (H:Hp) (s:Shared) (e:Value) (s':Shared),Inv X pins σ H s->CX X.stack H s E e s'->X.xe e s'
section
variable {X:Cx} {CX:CXT} {k:Nat} {f C:Addr} {fd:FuncData} {ps:List Str} {sp:Sp} {dvs:List V} {ds:List Value} {E:XK} {x m:Str} {p pos apos:Pos} {e o:Expr} {es:List Expr} {ta:TE} {t:TA}
theorem kYa {pins:List (Addr×Obj)} {σ:St} {H:Hp} {s:Shared} {Q:VK} {us:List Value} {vs:List V} (F:FnOk X.prog X.w X.K X.mg X.base CX k f fd ps sp) (hr:Room k X.A) (hb:Binds X.K fd ps ds) (hd:Vals dvs ds) (hx:qJp CX X E)
  (I:Inv X pins σ H s) (r:Vals vs us) (h:sp (vs++dvs) H Q E):wpAny (model X.prog X.w) X.A (call (.ref f) us) (EP X pins σ Q) X.xe s:=by
 have r2:Vals (vs++dvs) (us++ds):=r.append hd
 have hl:(us++ds).length=ps.length:=by rw[<-r2.length];exact F.len _ _ _ _ h
 refine wpAny_call (codeAny_mono (F.run X.A X.stack s H ⟨us,[]⟩ (us++ds) (vs++dvs) Q E hr I.env0 (hb s us I.kIn hl) r2 h) fun r s' hq=> ?_)
 cases r with
 | error e=>exact hx pins σ H s e s' I hq
 | ok fl=>
  cases fl with
  | ret u=>exact I.after hq
  | next=>exact False.elim hq
  | brk=>exact False.elim hq
  | cont=>exact False.elim hq
structure Mk (K:PySem.W.Frag) (C f:Addr):Prop where
 makes:PySem.W.makesIn K C=true
 init:PySem.W.findIn K (.ref C) "__init__"=some (some (.ref f))
 fn:PySem.W.isFn K (.ref f)=true
 kp:PySem.W.keepIn K (.ref C)=true
theorem qJ9 {pins:List (Addr×Obj)} {σ:St} {H:Hp} {s:Shared} {Q:VK} {us:List Value} {vs:List V} (M:Mk X.K C f) (F:FnOk X.prog X.w X.K X.mg X.base CX k f fd ps sp) (hr:Room (k+1) X.A) (hb:Binds X.K fd ps ds) (hd:Vals dvs ds)
  (hx:qJp CX X E) (I:Inv X pins σ H s) (r:Vals vs us)
  (h:∀x dx,H x=none->H dx=none->dx≠x->sp (.ref x::(vs++dvs)) (upd (upd H dx (.own x)) x (.ins C dx [])) (fun v H2=>v= .non/\Q (.ref x) H2) E):
  wpAny (model X.prog X.w) X.A (call (.ref C) us) (EP X pins σ Q) X.xe s:=by
 have hq:=h (s.heap.objs.size+1) s.heap.objs.size (I.hok.fresh (Nat.le_succ _)) (I.hok.fresh (Nat.le_refl _)) (Nat.ne_of_lt (Nat.lt_succ_self _))
 have I2:=Inv.made (C:=C) I
 have r2:Vals (V.ref (s.heap.objs.size+1)::(vs++dvs)) (Value.ref (s.heap.objs.size+1)::(us++ds)):= .cons rfl (r.append hd)
 have hl:(Value.ref (s.heap.objs.size+1)::us++ds).length=ps.length:=by
  have e:=r2.length
  rw[F.len _ _ _ _ hq] at e
  exact e.symm
 refine wpAny_call (qK1 (f:=f) I.kIn M.makes M.init (beq_iff_eq.mp M.fn) (codeAny_mono (F.run _ X.stack _ _ ⟨Value.ref (s.heap.objs.size+1)::us,[]⟩ (Value.ref (s.heap.objs.size+1)::(us++ds)) _ _ E (hr.make C us [])
  (I2.env0.make C us []) (hb _ (Value.ref (s.heap.objs.size+1)::us) I2.kIn hl) r2 hq) fun r s' hq'=> ?_))
 cases r with
 | error e=>exact hx pins σ _ _ e s' I2 hq'
 | ok fl=>
  cases fl with
  | ret u=>
   obtain⟨v,H',I3,rv,ev,q3⟩:=I2.after hq'
   subst ev
   exact⟨rv,⟨V.ref (s.heap.objs.size+1),H',I3,rfl,q3⟩⟩
  | next=>exact False.elim hq'
  | brk=>exact False.elim hq'
  | cont=>exact False.elim hq'
end
section
variable {X:Cx} {CX:CXT} {k:Nat} {f C:Addr} {fd:FuncData} {ps ks:List Str} {sp:Sp} {E:XK} {x m:Str} {p pos apos kpos:Pos} {e o:Expr} {es:List Expr} {kws:List Keyword} {te ta:TE} {t tk:TA} {nm:Option Str}
variable {g:List Value->List Value->List Value} {gV:List V->List V->List V}
end
structure FnScope (N P:List Str) (sc:Scope):Prop where
 kind:sc.kind= .function
 co:sc.isCoroutine=false
 gen:sc.isGenerator=false
 nd:N.Nodup
 pre:N.take P.length=P
 par:∀x∈P,sc.names.lookup x=some .local\/sc.names.lookup x=some .cell
 nofree:∀y∈sc.names,y.2≠ .free
theorem kQe {kindOf:Str->Option NameKind} {x:Str}:∀ {binds:List (Str×Value)} {m:Str->Option Value},(∀v,(x,v)∉binds)->bindL kindOf binds m x=m x
 | [],_,_=>rfl
 | (n,v)::r,m,h=>by
  unfold bindL
  rw[kQe fun w hw=>h w (List.mem_cons_of_mem _ hw)]
  split
  ·have:x≠n:=by rintro rfl;exact h v List.mem_cons_self
   simp[this]
  ·rfl
theorem kQg {kindOf:Str->Option NameKind} {x:Str}:∀ {binds:List (Str×Value)} {m:Str->Option Value},(∀v,(x,v)∉binds)->bindC kindOf binds m x=m x
 | [],_,_=>rfl
 | (n,v)::r,m,h=>by
  unfold bindC
  rw[kQg fun w hw=>h w (List.mem_cons_of_mem _ hw)]
  split
  ·rfl
  ·have:x≠n:=by rintro rfl;exact h v List.mem_cons_self
   simp[this]
theorem kQf {kindOf:Str->Option NameKind} {x:Str} {v:Value}:∀ {P:List Str} {vs:List Value} {i:Nat} {m:Str->Option Value},P.Nodup->P[i]? =some x->vs[i]? =some v->kindOf x=some .local->
  bindL kindOf (P.zip vs) m x=some v
 | [],_,_,_,_,h,_,_=>by simp at h
 | _::_,[],_,_,_,_,h,_=>by simp at h
 | p::P,w::vs,0,m,nd,h1,h2,hk=>by
  simp at h1 h2;subst h1;subst h2
  show bindL kindOf ((p,w)::P.zip vs) m p=_
  unfold bindL
  rw[kQe fun v hv=>(List.nodup_cons.mp nd).1 (List.of_mem_zip hv).1,if_pos hk]
  simp
 | p::P,w::vs,i+1,m,nd,h1,h2,hk=>by
  show bindL kindOf ((p,w)::P.zip vs) m x=_
  unfold bindL
  exact kQf (i:=i) (List.nodup_cons.mp nd).2 (by simpa using h1) (by simpa using h2) hk
theorem kQh {kindOf:Str->Option NameKind} {x:Str} {v:Value}:∀ {P:List Str} {vs:List Value} {i:Nat} {m:Str->Option Value},P.Nodup->P[i]? =some x->vs[i]? =some v->kindOf x≠some .local->
  bindC kindOf (P.zip vs) m x=some v
 | [],_,_,_,_,h,_,_=>by simp at h
 | _::_,[],_,_,_,_,h,_=>by simp at h
 | p::P,w::vs,0,m,nd,h1,h2,hk=>by
  simp at h1 h2;subst h1;subst h2
  show bindC kindOf ((p,w)::P.zip vs) m p=_
  unfold bindC
  rw[kQg fun v hv=>(List.nodup_cons.mp nd).1 (List.of_mem_zip hv).1,if_neg hk]
  simp
 | p::P,w::vs,i+1,m,nd,h1,h2,hk=>by
  show bindC kindOf ((p,w)::P.zip vs) m x=_
  unfold bindC
  exact kQh (i:=i) (List.nodup_cons.mp nd).2 (by simpa using h1) (by simpa using h2) hk
def start (N:List Str) (vs:List V):St:=vs.map some++List.replicate (N.length-vs.length) none
noncomputable def cxOf (CX:CXT) (P:Program) (w:World) (K:PySem.W.Frag) (mg:Str->Option Value) (base:Heap) (N:List Str) (qual:Str) (scope:Scope) (f:Addr) (cd:Value) (A:Around) (outer:List Env) (s:Shared) (H:Hp) (E:XK):Cx where
 prog:=P
 w:=w
 K:=K
 mg:=mg
 base:=base
 A:=A.deeper (envOfC qual scope s.heap.objs.size f cd)
 N:=N
 s₀:=s
 H₀:=H
 env:=envOfC qual scope s.heap.objs.size f cd
 outer:=outer
 stack:=envOfC qual scope s.heap.objs.size f cd::outer
 ex:=[]
 calm:=true
 fn:=fun _=>true
 pn:=[]
 xe:=fun e s'=>wpAny (model P w) (A.deeper (envOfC qual scope s.heap.objs.size f cd)) (leaving (envOfC qual scope s.heap.objs.size f cd) e) (fun _ s''=>CX outer H s E e s'') (fun e' s''=>CX outer H s E e' s'') s'
theorem kVu {sc:Scope} {n:Nat} {x:Str} (h:sc.names.lookup x=some .cell):∃c,(cellsFrom n sc.names []).lookup x=some c:=by
 have q:=PySem.W.cellsFrom_some sc.names n [] (.inl h)
 exact Option.isSome_iff_exists.mp q
theorem kZg {CX:CXT} {P:Program} {w:World} {K:PySem.W.Frag} {mg:Str->Option Value} {base:Heap} {N ps:List Str} {qual:Str} {scope:Scope} {f:Addr} {cd:Value} {A:Around} {outer:List Env} {s s1:Shared} {H:Hp} {E:XK} {us:List Value} {vs:List V}
  (S:FnScope N ps scope) (hd:A.handled=none/\A.guards=some []) (e0:Env0 P w K mg base A outer s H) (hl:vs.length=ps.length) (r:Vals vs us)
  (x:InCallC s s.heap.objs.size (bindL (envOfC qual scope s.heap.objs.size f cd).kindOf (ps.zip us) fun _=>none) (cellsFrom (s.heap.objs.size+1) scope.names []) (bindC (envOfC qual scope s.heap.objs.size f cd).kindOf (ps.zip us) fun _=>none) s1):
  Inv (cxOf CX P w K mg base N qual scope f cd A outer s H E) [] (start N vs) H s1:=by
 have hpl:ps.length<=N.length:=by have:=congrArg List.length S.pre;rw[List.length_take] at this;omega
 obtain⟨h1,tk,rfl,hk⟩:=x.done
 have noA:∀b:Addr,b∉(cxOf CX P w K mg base N qual scope f cd A outer s H E).ex:=fun b z=>absurd (show b∈([]:List Addr) from z) (by simp)
 refine⟨⟨e0.mod,S.kind,rfl,rfl,Nat.le_refl _,fun y z c h1 h2=> ?_,fun y hy=> ?_,fun y c _ h=> ?_,fun _=>hd.1,fun _=>hd.2,Around.frames_deeper e0.frames,.inr ⟨rfl,rfl⟩,fun b z=>absurd z (noA b),e0.bs,e0.bsz,fun b _ _=>noA b,fun b z=>absurd z (noA b),e0.funs,e0.frf⟩,
  rfl,e0.bare,Un.kept hk,⟨_,x.toInCall.ns,fun i y v h1 h2 h3=> ?_⟩,fun y c h=>⟨_,x.cell y c h⟩,e0.hok.fresh (Nat.le_refl _),fun y c h=> ?_,fun p hp=>absurd (show p∈([]:List (Addr×Obj)) from hp) (by simp),e0.hok.kept hk,?_⟩
 ·exact name_of_addr x.apart (PySem.mem_of_lookup h1) (PySem.mem_of_lookup h2)
 ·have hy:scope.names.lookup y=some .cell\/scope.names.lookup y=some .free:=hy
  rcases hy with hy | hy
  ·exact kVu hy
  ·exact absurd rfl (S.nofree _ (PySem.mem_of_lookup hy))
 ·exact Nat.le_of_lt (x.above y c (PySem.mem_of_lookup h))
 ·have hi:i<vs.length:=by
   unfold start at h2
   by_cases hi:i<vs.length
   ·exact hi
   ·rw[List.getElem?_append_right (by simpa using hi)] at h2
    rw[List.getElem?_replicate] at h2
    split at h2<;>cases h2
  have ha:vs[i]? =some v:=by
   unfold start at h2
   rw[List.getElem?_append_left (by simpa using hi),List.getElem?_map] at h2
   cases e:vs[i]? with
   | none=>rw[e] at h2;cases h2
   | some a=>rw[e] at h2;cases h2;rfl
  obtain⟨u,hu,rv⟩:=r.get ha
  have hp:ps[i]? =some y:=by
   rw[<-S.pre,List.getElem?_take_of_lt (by omega)];exact h1
  have ndP:ps.Nodup:=by rw[<-S.pre];exact S.nd.sublist (List.take_sublist _ _)
  refine⟨u,rv,?_⟩
  rcases S.par y (List.mem_of_getElem? hp) with k | k
  ·exact .inl ⟨k,kQf ndP hp hu k⟩
  ·obtain⟨c,e⟩:=kVu (n:=s.heap.objs.size+1) k
   refine .inr ⟨.inl k,c,e,?_⟩
   have q:=x.cell y c e
   rw[kQh ndP hp hu (by show scope.names.lookup y≠_;rw[k];decide)] at q
   exact q
 ·exact e0.hok.fresh (Nat.le_of_lt (x.above y c (PySem.mem_of_lookup h)))
 ·unfold start
  show _=N.length
  rw[List.length_append,List.length_map,List.length_replicate]
  omega
theorem fn_of {CX:CXT} {P:Program} {w:World} {K:PySem.W.Frag} {mg:Str->Option Value} {base:Heap} {k:Nat} {f:Addr} {name qual:Str} {params:Arguments} {body:List Stmt} {scope:Scope} {dV kV doc pm cdv ct oc:Value} {an od:Option Addr}
  {osl:Array (Option Value)} {N ps:List Str} {sp:Sp} (lk:K.lookup f=some ⟨oc,od,.func (PySem.W.fnOf name qual params body scope dV kV doc pm an cdv ct),osl⟩) (hcd:PySem.W.codeIn K cdv qual=true) (S:FnScope N ps scope)
  (len:∀vs H Q E,sp vs H Q E->vs.length=ps.length)
  (hbody:∀(A:Around) (outer:List Env) (s:Shared) (H:Hp) (vs:List V) (Q:VK) (E:XK),Room k (A.deeper (envOfC qual scope s.heap.objs.size f cdv))->sp vs H Q E->
   ∃t,PSs (cxOf CX P w K mg base N qual scope f cdv A outer s H E) body t/\t {nx:=fun _ H'=>Q .non H',rt:=Q} (start N vs) H):
  FnOk P w K mg base CX (k+1) f (PySem.W.fnOf name qual params body scope dV kV doc pm an cdv ct) ps sp:=by
 refine⟨len,fun A outer s H args us vs Q E hr e0 hb r hsp=> ?_⟩
 have hl:=len _ _ _ _ hsp
 have KX:K.In s.heap:=e0.mod.kin.keeps fun b o e=>(e0.bs b o e).1
 have lim:s.heap.NoLimit:=e0.mod.nolimit.keeps fun b o e=>(e0.bs b o e).1
 have hkind:∀y∈ps.zip us,scope.names.lookup y.1=some .local\/(scope.names.lookup y.1=some .cell/\((cellsFrom (s.heap.objs.size+1) scope.names []).lookup y.1).isSome=true):=fun ⟨n,v⟩ hy=>by
  rcases S.par n (List.of_mem_zip hy).1 with q | q
  ·exact .inl q
  ·exact .inr ⟨q,PySem.W.cellsFrom_some _ _ _ (.inl q)⟩
 refine codeAny_call_function hr.depth (KX _ _ lk) rfl S.co S.gen rfl (PySem.W.codeRec_of KX hcd) (hb _ _ _ _ ?_)
 refine wpAny_newFunctionEnv_cells S.kind hkind fun env he s1 x=> ?_
 subst he
 refine⟨lim.keeps x.toInCall.keep,codeAny_func ?_⟩
 obtain⟨t,ht,hq⟩:=hbody A outer s H vs Q E (hr.deeper _) hsp
 have I:Inv (cxOf CX P w K mg base N qual scope f cdv A outer s H E) [] (start N vs) H s1:=kZg S ⟨hr.hd,hr.gd⟩ e0 hl r x
 refine wpAny_mono (ht [] s1 (start N vs) H _ I hq) (fun fl s' hs=> ?_) fun e s' hs=>hs
 have fin:∀ {σ':St} {H':Hp} {v:V} {u:Value},Inv (cxOf CX P w K mg base N qual scope f cdv A outer s H E) [] σ' H' s'->RelV v u->Q v H'->CE outer P w H s Q u s':=
  fun {σ' H' v u} J rv q=>⟨v,H',J.os,J.bare,J.base,J.hok,rv,q⟩
 cases fl with
 | ret u=>
  obtain⟨v,σ',H',J,rv,q⟩:=hs
  exact fin J rv q
 | next=>
  obtain⟨σ',H',J,q⟩:=hs
  exact fin (v:=V.non) (u:=Value.none) J rfl q
 | brk=>
  obtain⟨_,_,_,q⟩:=hs
  exact False.elim q
 | cont=>
  obtain⟨_,_,_,q⟩:=hs
  exact False.elim q
section
variable {X:Cx} {x:Str} {p pos:Pos} {e:Expr} {es:List Expr} {t:TA} {id T:String} {r:List V->Hp->VK->Prop}
end
end L2
namespace HT
open PySem PyProof.Rows
theorem qQk (A:Around) (s:Shared) (a:Int) (t:Tok) (c:Int) (u:Tok):∃e,SeqAt.EqAt A s (.int a t) (.int c u) e/\(e=true↔a=c):=
 ⟨(a == c),SeqAt.EqAt.int_int a t c u,by simp⟩
section
open PySem.SeqAt
open PySem.AutoSeq1 (wpAny_loadPart')
open PySem.MeetsSeq PySem.MeetsSeq2 PySem.MeetsSeq3
end
section
variable {prog:Program} {w:World} {A:Around} {E:Value->Shared->Prop} {s:Shared}
theorem cat_tup {t b:Addr} {vs ws:List Value} {Q:Value->Shared->Prop} (ht:IsTup s.heap t vs.toArray) (hb:IsTup s.heap b ws.toArray) (hv:vs≠[])
  (h1:ws=[]->Q (.ref t) s) (h2:ws≠[]->Q (.ref s.heap.objs.size) {s with heap:=s.heap.push {cls:= .type "tuple",data:= .seq (vs++ws).toArray} })
  (hsz:vs.length+ws.length<=sizeLine):wpAny (model prog w) A (binaryOp .Add (.ref t) (.ref b)) Q E s:=by
 obtain⟨⟨cls,dd,data,sl⟩,ho,hc,n,hd⟩:=id ht
 obtain⟨⟨cls2,dd2,data2,sl2⟩,ho2,hc2,n2,hd2⟩:=id hb
 simp only at hc hd hc2 hd2
 subst hc hd hc2 hd2
 have e:vs.toArray++ws.toArray=(vs++ws).toArray:=by simp
 by_cases hw:ws=[]
 ·exact concat_meets ⟨_,ho,rfl⟩ ⟨_,ho2,rfl⟩ noFill_tuple_add seq_tuple_add PySem.F.slot_tuple_add PySem.F.entry_tuple_add (PySem.F.args_tuple_add_2 _ _)
   (tuple_addW1 t b vs.toArray ws.toArray n n2 dd dd2 sl sl2 (by simpa using hv) (by simp[hw])) ⟨ho,ho2,h1 hw⟩
 ·refine concat_meets ⟨_,ho,rfl⟩ ⟨_,ho2,rfl⟩ noFill_tuple_add seq_tuple_add PySem.F.slot_tuple_add PySem.F.entry_tuple_add (PySem.F.args_tuple_add_2 _ _)
   (tuple_addW2 t b vs.toArray ws.toArray n n2 dd dd2 sl sl2 (by simpa using hv) (by simpa using hw) (by rw[List.size_toArray,List.size_toArray];exact hsz)) ⟨ho,ho2,?_⟩
  rw[e]
  exact h2 hw
end
end HT
namespace L2
open PySem PySem.Spec PyProof.Rows
abbrev TO:=St->Hp->(Option Int->Hp->Prop)->Prop
theorem kJe {ns:List Int}:∀ {us:List Value},Vals (ns.map V.int) us->IntsAre us ns:=by
 induction ns with
 | nil=>intro us r;rw[List.map_nil] at r;cases r;exact .nil
 | cons n ns ih=>
  intro us r
  rw[List.map_cons] at r
  cases r with
  | cons r1 r2=>
   obtain⟨t,e⟩:=r1
   subst e
   exact .cons n t (ih r2)
section
variable {X:Cx} {e:Expr} {te:TE} {lo hi:Option Expr} {tl th:TO} {pos p2:Pos}
noncomputable def qKm (K:PySem.W.Frag):R2:=fun x y H Q=>∃a b xs ys,x= .ref a/\y= .ref b/\SqT K H a xs/\SqT K H b ys/\xs≠[]/\xs.length+ys.length<=sizeLine/\
 (ys=[]->Q (.ref a) H)/\(ys≠[]->∀p,H p=none->Q (.ref p) (upd H p (.tup (xs++ys))))
theorem Vals.nil_iff {xs:List V} {us:List Value} (r:Vals xs us):us=[]↔xs=[]:=by
 cases r with
 | nil=>simp
 | cons _ _=>simp
theorem qU0:OpR X (binaryOp .Add) (qKm X.K):=by
 intro pins s σ H x y v u Q I rx ry h
 obtain⟨a,b,xs,ys,rfl,rfl,ha,hb,hx,hz,q1,q2⟩:=h
 cases rx
 cases ry
 obtain⟨its,r1,p1,_⟩:=I.tuple ha
 obtain⟨its2,r2,p2,_⟩:=I.tuple hb
 refine HT.cat_tup p1 p2 (fun z=>hx (r1.nil_iff.mp z)) (fun z=>⟨.ref a,H,I,rfl,q1 (r2.nil_iff.mp z)⟩) (fun z=> ?_) (by rw[<-r1.length,<-r2.length];exact hz)
 refine⟨.ref s.heap.objs.size,_,I.laid (t':=s.toks) (o:= .tup (xs++ys)) (fun b ob q=>Heap.get?_push_of_some _ q) (Nat.le_refl _) ?_,rfl,q2 (fun w=>z (r2.nil_iff.mpr w)) _ (I.hok.fresh (Nat.le_refl _))⟩
 exact⟨by rw[List.length_append];exact hz,_,r1.append r2,TupD.new _ _⟩
end
def ixN (n:Nat) (i:Int):Option Nat:=if 0<=i then (if i<n then some i.toNat else none) else if -(n:Int)<=i then some (i+n).toNat else none
def atI {α:Type} (xs:List α) (i:Int):Option α:=(ixN xs.length i).bind fun j=>xs[j]?
theorem kZf {n:Nat} {i:Int} {j:Nat} (h:ixN n i=some j):seqIndex? i n=some j/\j<n/\ -(n:Int)<=i/\i<n:=by
 unfold ixN at h
 by_cases h0:0<=i
 ·rw[if_pos h0] at h
  by_cases h1:i<n
  ·rw[if_pos h1] at h
   have e:i.toNat=j:=Option.some.inj h
   exact⟨by rw[seqIndex_of h0 h1,e],by omega,by omega,h1⟩
  ·rw[if_neg h1] at h;cases h
 ·rw[if_neg h0] at h
  by_cases h1: -(n:Int)<=i
  ·rw[if_pos h1] at h
   have e:(i+n).toNat=j:=Option.some.inj h
   exact⟨by rw[seqIndex_neg (by omega) h1,e],by omega,h1,by omega⟩
  ·rw[if_neg h1] at h;cases h
theorem qJn {α:Type} {xs:List α} {i:Int} {v:α} (h:atI xs i=some v):∃j,seqIndex? i xs.length=some j/\xs[j]? =some v/\j<xs.length/\ -(xs.length:Int)<=i/\i<xs.length:=by
 unfold atI at h
 cases e:ixN xs.length i with
 | none=>rw[e] at h;cases h
 | some j=>
  rw[e] at h
  obtain⟨h1,h2,h3,h4⟩:=kZf e
  exact⟨j,h1,h,h2,h3,h4⟩
def qV9 (b:Expr):Prop:=∀o i,subscripted b false o i=operate [o,i] (getItem o i)
noncomputable def IxR (X:Cx) (r:R2):Prop:=
 ∀(value slice:Expr) (pins:List (Addr×Obj)) (s:Shared) (σ:St) (H:Hp) (x y:V) (v u:Value) (Q:VK),Inv X pins σ H s->RelV x v->RelV y u->r x y H Q->
  subscripted slice false v u=operate [v,u] (getItem v u)->wpAny (model X.prog X.w) X.A (subscriptTail value slice v u) (EP X pins σ Q) X.xe s
noncomputable def MtR (X:Cx) (id:String) (r:V->List V->Hp->VK->Prop):Prop:=
 ∀(pins:List (Addr×Obj)) (s:Shared) (σ:St) (H:Hp) (x:V) (xs:List V) (v:Value) (us:List Value) (Q:VK),Inv X pins σ H s->RelV x v->Vals xs us->r x xs H Q->
  wpAny (model X.prog X.w) X.A (call (.builtin id) (v::us)) (EP X pins σ Q) X.xe s
section
variable {X:Cx} {a b:Expr} {ta tb:TE} {pos:Pos}
theorem IxR.or {r r':R2} (h:IxR X r) (h':IxR X r'):IxR X (fun x y H Q=>r x y H Q\/r' x y H Q):=by
 intro value slice pins s σ H x y v u Q I rx ry q hs
 rcases q with q | q
 ·exact h value slice pins s σ H x y v u Q I rx ry q hs
 ·exact h' value slice pins s σ H x y v u Q I rx ry q hs
def rIxL (K:PySem.W.Frag):R2:=fun x y H Q=>∃p xs i v,x= .ref p/\y= .int i/\SqL K H p xs/\atI xs i=some v/\Q v H
def rIxT (K:PySem.W.Frag):R2:=fun x y H Q=>∃p xs i v,x= .ref p/\y= .int i/\SqT K H p xs/\atI xs i=some v/\Q v H
theorem ix_list:IxR X (rIxL X.K):=by
 intro value slice pins s σ H x y v u Q I rx ry h hs
 obtain⟨p,xs,i,z,rfl,rfl,hq,he,q⟩:=h
 cases rx
 obtain⟨t,rfl⟩:=ry
 obtain⟨its,r,pl,hz⟩:=I.list hq
 obtain⟨j,h1,h2,h3,h4,h5⟩:=qJn he
 obtain⟨w,ew,rw'⟩:=r.get h2
 have hl:=r.length
 have hn:=kK0
 have fin:EP X pins σ Q w s:=⟨z,H,I,rw',q⟩
 by_cases h0:0<=i
 ·have hj:i.toNat=j:=by
   rw[seqIndex_of h0 h5] at h1
   exact Option.some.inj h1
  exact item_listR pl.isList h0 (by omega) (by rw[hj];simpa using ew) fin hs
 ·have hj:(i+(its.toArray.size:Int)).toNat=j:=by
   rw[seqIndex_neg (by omega) h4] at h1
   rw[List.size_toArray,<-hl]
   exact Option.some.inj h1
  exact subscriptTail_builtinR (x:=w) pl.isList.typeIs slot_list_getitem.lookup
   (wpAny_getItem_list_neg (Q:=fun r s'=>r=w/\EP X pins σ Q r s') pl.isList (by omega) (by rw[List.size_toArray]<;>omega) (by omega) (by rw[hj];simpa using ew) ⟨rfl,fin⟩) hs
theorem ix_tup:IxR X (rIxT X.K):=by
 intro value slice pins s σ H x y v u Q I rx ry h hs
 obtain⟨p,xs,i,z,rfl,rfl,hq,he,q⟩:=h
 cases rx
 obtain⟨t,rfl⟩:=ry
 obtain⟨its,r,pl,hz⟩:=I.tuple hq
 obtain⟨j,h1,h2,h3,h4,h5⟩:=qJn he
 obtain⟨w,ew,rw'⟩:=r.get h2
 have hl:=r.length
 have hn:=kK0
 have fin:EP X pins σ Q w s:=⟨z,H,I,rw',q⟩
 exact subscriptTail_builtinR (x:=w) pl.typeIs slot_tuple_getitem.lookup
  (getItem_tuple (j:=j) (Q:=fun r s'=>r=w/\EP X pins σ Q r s') pl (by omega) (by omega) (by rw[List.size_toArray,<-hl];exact h1) (by simpa using ew) ⟨rfl,fin⟩) hs
theorem kXc (its:List Value) (n j:Nat) (u:Value):Obj.mapSeq (·.setIfInBounds j u) {cls:= .type "list",data:= .seq its.toArray n}={cls:= .type "list",data:= .seq (its.set j u).toArray n}:=by
 simp[Obj.mapSeq]
theorem Inv.lst {pins:List (Addr×Obj)} {σ:St} {H:Hp} {s:Shared} {p:Addr} {xs:List V} (I:Inv X pins σ H s) (h:H p=some (.lst xs)):
  ∃(its:List Value) (n:Nat),Vals xs its/\s.heap.get? p=some {cls:= .type "list",data:= .seq its.toArray n}/\xs.length<=sizeLine:=by
 obtain⟨z,its,n,r,e⟩:=I.hok p _ h
 exact⟨its,n,r,e,z⟩
theorem Inv.lstUpd {pins:List (Addr×Obj)} {σ:St} {H:Hp} {s:Shared} {p:Addr} {xs ys:List V} {its its':List Value} {n n':Nat} {f:Obj->Obj} (I:Inv X pins σ H s) (h:H p=some (.lst xs))
  (ho:s.heap.get? p=some {cls:= .type "list",data:= .seq its.toArray n}) (hf:f {cls:= .type "list",data:= .seq its.toArray n}={cls:= .type "list",data:= .seq its'.toArray n'}) (r:Vals ys its') (hz:ys.length<=sizeLine) (t:Nat):
  Inv X pins σ (upd H p (.lst ys)) {s with heap:=s.heap.update p f,toks:=t}:=by
 have e:(s.heap.update p f).get? p=some {cls:= .type "list",data:= .seq its'.toArray n'}:=by
  rw[Heap.get?_update_self f ho (by rw[hf]<;>rfl),hf]
 refine I.write (x:=p) (e:=p) (by rw[h];trivial) (.inl rfl) (fun b u hb q=>(Heap.get?_update_other _ _ (Ne.symm hb)).trans q) ⟨_,e⟩ ?_
 exact⟨hz,its',n',r,e⟩
def qKl:V->V->V->Hp->(Hp->Prop)->Prop:=fun o i v H Q=>∃p xs k j,o= .ref p/\i= .int k/\H p=some (.lst xs)/\ixN xs.length k=some j/\Q (upd H p (.lst (xs.set j v)))
theorem qJ3:PSet X qKl:=by
 intro pins s σ H o i v ov iv u Q I ro ri rv h
 obtain⟨p,xs,k,j,rfl,rfl,hp,hj,q⟩:=h
 cases ro
 obtain⟨t,rfl⟩:=ri
 obtain⟨its,n,r,ho,hz⟩:=I.lst hp
 obtain⟨h1,h2,h3,h4⟩:=kZf hj
 have hl:=r.length
 have hn:=kK0
 have I':Inv X pins σ (upd H p (.lst (xs.set j v))) {s with heap:=s.heap.update p (Obj.mapSeq (·.setIfInBounds j u))}:=
  I.lstUpd hp ho (kXc its n j u) (r.set rv j) (by rw[List.length_set];exact hz) s.toks
 by_cases h0:0<=k
 ·have hk:k.toNat=j:=by
   rw[seqIndex_of h0 h4] at h1
   exact Option.some.inj h1
  exact PySem.W.ki_setAt ho h0 (by omega) (by rw[List.size_toArray,<-hl];exact h4) (by rw[hk];exact⟨_,I',q⟩)
 ·have hk:(k+(its.toArray.size:Int)).toNat=j:=by
   rw[seqIndex_neg (by omega) h3] at h1
   rw[List.size_toArray,<-hl]
   exact Option.some.inj h1
  exact PySem.W.ki_setBack ho (by omega) (by rw[List.size_toArray,<-hl];exact h3) (by omega) (by rw[hk];exact⟨_,I',q⟩)
def jZ6:V->Bool
 | .non=>true
 | .bl _=>true
 | .int _=>true
 | .str _=>true
 | _=>false
noncomputable def eqV:V->V->Bool
 | .non,.non=>true
 | .bl a,.bl b=>a == b
 | .bl a,.int b=>(if a then 1 else 0) == b
 | .int a,.bl b=>a == (if b then 1 else 0)
 | .int a,.int b=>a == b
 | .str a,.str b=>a == b
 | _,_=>false
theorem eqAt_V {A:Around} {s:Shared} {y x:V} {u v:Value} (ry:RelV y u) (rx:RelV x v) (fy:jZ6 y=true) (fx:jZ6 x=true):SeqAt.EqAt A s u v (eqV y x):=by
 cases y with
 | non=>
  cases ry
  cases x with
  | non=>cases rx;exact SeqAt.EqAt.same _
  | bl b=>cases rx;exact SeqAt.EqAt.none_bool b
  | int b=>obtain⟨t,rfl⟩:=rx;exact SeqAt.EqAt.none_int b t
  | str b=>obtain⟨t,rfl⟩:=rx;exact SeqAt.EqAt.none_str b t
  | _=>exact absurd (show false=true from fx) Bool.false_ne_true
 | bl a=>
  cases ry
  cases x with
  | non=>cases rx;exact SeqAt.EqAt.bool_none a
  | bl b=>cases rx;exact SeqAt.EqAt.bool_bool a b
  | int b=>obtain⟨t,rfl⟩:=rx;exact SeqAt.EqAt.bool_int a b t
  | str b=>obtain⟨t,rfl⟩:=rx;exact SeqAt.EqAt.bool_str a b t
  | _=>exact absurd (show false=true from fx) Bool.false_ne_true
 | int a=>
  obtain⟨t',rfl⟩:=ry
  cases x with
  | non=>cases rx;exact SeqAt.EqAt.int_none a t'
  | bl b=>cases rx;exact SeqAt.EqAt.int_bool a t' b
  | int b=>obtain⟨t,rfl⟩:=rx;exact SeqAt.EqAt.int_int a t' b t
  | str b=>obtain⟨t,rfl⟩:=rx;exact SeqAt.EqAt.int_str a t' b t
  | _=>exact absurd (show false=true from fx) Bool.false_ne_true
 | str a=>
  obtain⟨t',rfl⟩:=ry
  cases x with
  | non=>cases rx;exact SeqAt.EqAt.str_none a t'
  | bl b=>cases rx;exact SeqAt.EqAt.str_bool a t' b
  | int b=>obtain⟨t,rfl⟩:=rx;exact SeqAt.EqAt.str_int a t' b t
  | str b=>obtain⟨t,rfl⟩:=rx;exact SeqAt.EqAt.str_str a t' b t
  | _=>exact absurd (show false=true from fx) Bool.false_ne_true
 | _=>exact absurd (show false=true from fy) Bool.false_ne_true
def eqU (x:V) (u:Value):Bool:=match u with
 | .none=>eqV .non x
 | .bool b=>eqV (.bl b) x
 | .int i _=>eqV (.int i) x
 | .str z _=>eqV (.str z) x
 | _=>false
theorem kZ0 {x y:V} {u:Value} (r:RelV y u) (f:jZ6 y=true):eqU x u=eqV y x:=by
 cases y with
 | non=>cases r;rfl
 | bl b=>cases r;rfl
 | int i=>obtain⟨t,rfl⟩:=r;rfl
 | str z=>obtain⟨t,rfl⟩:=r;rfl
 | _=>exact absurd (show false=true from f) Bool.false_ne_true
theorem kUl {x:V}:∀ {xs:List V} {us:List Value},Vals xs us->xs.all jZ6=true->us.any (eqU x)=xs.any fun y=>eqV y x
 | _,_,.nil,_=>rfl
 | y::xs,u::us,.cons r t,f=>by
  rw[List.all_cons,Bool.and_eq_true] at f
  rw[List.any_cons,List.any_cons,kZ0 r f.1,kUl t f.2]
theorem jYi {A:Around} {s:Shared} {x:V} {v:Value} (rx:RelV x v) (fx:jZ6 x=true):∀ {xs:List V} {us:List Value},Vals xs us->xs.all jZ6=true->∀u∈us,SeqAt.EqAt A s u v (eqU x u)
 | _,_,.nil,_=>fun u hu=>by cases hu
 | y::xs,u::us,.cons r t,f=>fun u' hu=>by
  rw[List.all_cons,Bool.and_eq_true] at f
  rcases (List.mem_cons.mp hu) with rfl | hu
  ·rw[kZ0 r f.1];exact eqAt_V r rx f.1 fx
  ·exact jYi rx fx t f.2 u' hu
def inV (x:V) (xs:List V):Bool:=xs.any fun y=>eqV y x
def rIn (K:PySem.W.Frag) (neg:Bool):R2:=fun x y H Q=>∃p xs,y= .ref p/\(SqL K H p xs\/SqT K H p xs)/\jZ6 x=true/\xs.all jZ6=true/\Q (.bl (if neg then !inV x xs else inV x xs)) H
theorem kKt:OpR X (compareOp .NotIn) (rIn X.K true):=by
 intro pins s σ H x y v u Q I rx ry h
 obtain⟨p,xs,rfl,hq,fx,fs,q⟩:=h
 cases ry
 rcases hq with hq | hq
 ·obtain⟨its,r,pl,hz⟩:=I.list hq
  refine SeqAt.notIn_listAt (eqU x) pl.isList (fun w hw=>jYi rx fx r fs w (by simpa using hw)) ⟨.bl _,H,I,rfl,?_⟩
  rw[show its.toArray.any (eqU x)=its.any (eqU x) by simp,kUl r fs]
  exact q
 ·obtain⟨its,r,pl,hz⟩:=I.tuple hq
  refine SeqAt.notIn_tupleAt (eqU x) pl (fun w hw=>jYi rx fx r fs w (by simpa using hw)) ⟨.bl _,H,I,rfl,?_⟩
  rw[show its.toArray.any (eqU x)=its.any (eqU x) by simp,kUl r fs]
  exact q
theorem kQd:kQo X (.builtin "len") (fun xs H Q=>∃p ys,xs=[.ref p]/\(SqL X.K H p ys\/SqT X.K H p ys)/\Q (.int ys.length) H):=by
 intro pins s σ H xs us Q I r h
 obtain⟨p,ys,rfl,hq,q⟩:=h
 obtain⟨u,rfl,rx⟩:=kVz r
 cases rx
 have hn:=kK0
 rcases hq with hq | hq
 ·obtain⟨its,r',pl,hz⟩:=I.list hq
  have hlen:=r'.length
  exact Calls.call_len_list pl.isList (by simp only[List.size_toArray]<;>omega) ⟨.int ys.length,H,I.tok _,⟨s.toks+1,by rw[List.size_toArray,hlen]⟩,q⟩
 ·obtain⟨its,r',pl,hz⟩:=I.tuple hq
  have hlen:=r'.length
  exact len_tuple pl (by simp only[List.size_toArray]<;>omega) ⟨.int ys.length,H,I.tok _,⟨s.toks+1,by rw[List.size_toArray,hlen]⟩,q⟩
theorem kQc:kQo X (.type "list") (fun xs H Q=>∃p ys,xs=[.ref p]/\(SqL X.K H p ys\/SqT X.K H p ys)/\∀l,H l=none->Q (.ref l) (upd H l (.lst ys))):=by
 intro pins s σ H xs us Q I r h
 obtain⟨p,ys,rfl,hq,q⟩:=h
 obtain⟨u,rfl,rx⟩:=kVz r
 cases rx
 have fin:∀(its:List Value),Vals ys its->ys.length<=sizeLine->∀(h':Heap) (c':Nat),(∀b o',s.heap.get? b=some o'->h'.get? b=some o')->
   h'.get? s.heap.objs.size=some {cls:= .type "list",dict:=none,data:= .seq its.toArray c',slots:= #[]}->EP X pins σ Q (.ref s.heap.objs.size) {s with heap:=h'}:=fun its r' hz h' c' kp e=>
  ⟨.ref s.heap.objs.size,_,I.laid (t':=s.toks) kp (Nat.le_refl _) (show ObjOk X.prog X.w _ h' _ (.lst ys) from⟨hz,its,c',r',e⟩),rfl,q _ (I.hok.fresh (Nat.le_refl _))⟩
 rcases hq with hq | hq
 ·obtain⟨its,r',pl,hz⟩:=I.list hq
  have hlen:=r'.length
  obtain⟨o,ho,hc,n,hd⟩:=pl.isList
  exact call_list_seq p (.inl rfl) ho hc hd (fun h' c' kp e=>fin its r' hz h' c' kp e) (by simp only[List.size_toArray]<;>omega)
 ·obtain⟨its,r',pl,hz⟩:=I.tuple hq
  have hlen:=r'.length
  obtain⟨o,ho,hc,n,hd⟩:=pl
  exact call_list_seq p (.inr rfl) ho hc hd (fun h' c' kp e=>fin its r' hz h' c' kp e) (by simp only[List.size_toArray]<;>omega)
theorem kKd:kQo X (.type "tuple") (fun xs H Q=>∃p ys,xs=[.ref p]/\((SqL X.K H p ys/\∀l,H l=none->Q (.ref l) (upd H l (.tup ys)))\/(SqT X.K H p ys/\Q (.ref p) H))):=by
 intro pins s σ H xs us Q I r h
 obtain⟨p,ys,rfl,h⟩:=h
 obtain⟨u,rfl,rx⟩:=kVz r
 cases rx
 rcases h with ⟨hq,q⟩ | ⟨hq,q⟩
 ·obtain⟨its,r',pl,hz⟩:=I.list hq
  have hlen:=r'.length
  refine call_tuple_list pl.isList (fun h' kp=> ?_) (by simp only[List.size_toArray]<;>omega)
  have I1:Inv X pins σ H {s with heap:=h'}:=I.kept (t':=s.toks) kp
  have I2:Inv X pins σ (upd H h'.objs.size (.tup ys)) {s with heap:=h'.push {cls:= .type "tuple",data:= .seq its.toArray} }:=
   I1.laid (t':=s.toks) (fun b o e=>Heap.get?_push_of_some _ e) (Nat.le_refl _) (show ObjOk X.prog X.w _ _ _ (.tup ys) from⟨hz,its,r',TupD.new _ _⟩)
  exact⟨.ref h'.objs.size,_,I2,rfl,q _ (I1.hok.fresh (Nat.le_refl _))⟩
 ·obtain⟨its,r',pl,hz⟩:=I.tuple hq
  exact call_tuple_same pl ⟨.ref p,H,I,rfl,q⟩
noncomputable def tyV (K:PySem.W.Frag) (T:String) (x:V) (H:Hp):Prop:=match x with
 | .str _=>T="str"
 | .int _=>T="int"
 | .ref p=>(T="list"/\∃xs,SqL K H p xs)\/(T="tuple"/\∃o,K.lookup p=some o/\o.cls= .type "tuple"/\o.dict=none)\/
   (T="dict"/\((∃kvs,H p=some (.dK kvs))\/∃kvs,H p=some (.dT kvs)))\/(T="set"/\∃S n,H p=some (.set S n))
 | _=>False
theorem tyV_is {pins:List (Addr×Obj)} {σ:St} {H:Hp} {s:Shared} {T:String} {x:V} {v:Value} (I:Inv X pins σ H s) (r:RelV x v) (ty:tyV X.K T x H):
  s.TypeIs v T/\∀a,v= .ref a->∃ob,s.heap.get? a=some ob/\ob.dict=none:=by
 cases x with
 | str z=>
  obtain⟨t,rfl⟩:=r
  cases (show T="str" from ty)
  exact⟨typeIs_str s z t,fun _ e=>nomatch e⟩
 | int i=>
  obtain⟨t,rfl⟩:=r
  cases (show T="int" from ty)
  exact⟨typeIs_int s i t,fun _ e=>nomatch e⟩
 | ref p=>
  cases r
  rcases ty with ⟨rfl,xs,hq⟩ | ⟨rfl,o,hk,hc,hd⟩ | ⟨rfl,hk⟩ | ⟨rfl,S,n,hk⟩
  ·obtain⟨its,_,pl,_⟩:=I.list hq
   refine⟨pl.isList.typeIs,fun a e=> ?_⟩
   cases e
   obtain⟨o,n,e,c,hd,_⟩:=pl
   exact⟨o,e,hd⟩
  ·refine⟨⟨o,I.kIn p o hk,hc⟩,fun a e=> ?_⟩
   cases e
   exact⟨o,I.kIn _ o hk,hd⟩
  ·have z:∃o,s.heap.get? p=some o/\o.ExactDict:=by
    rcases hk with ⟨kvs,hk⟩ | ⟨kvs,hk⟩
    ·obtain⟨_,_,_,_,o,_,_,e,ex,_⟩:=I.hok p _ hk
     exact⟨o,e,ex⟩
    ·obtain⟨_,_,_,_,o,_,_,e,ex,_⟩:=I.hok p _ hk
     exact⟨o,e,ex⟩
   obtain⟨o,e,ex⟩:=z
   refine⟨⟨o,e,ex.1⟩,fun a e2=> ?_⟩
   cases e2
   exact⟨o,e,ex.2.1⟩
  ·obtain⟨o,_,_,_,e,ex,_⟩:=I.hok p _ hk
   refine⟨⟨o,e,ex.1⟩,fun a e2=> ?_⟩
   cases e2
   exact⟨o,e,ex.2.1⟩
 | _=>exact False.elim ty
variable {o e:Expr} {es:List Expr} {to:TE} {t:TA} {name:Str} {apos cpos:Pos} {T id:String} {r:V->List V->Hp->VK->Prop}
end
noncomputable def MtM (X:Cx) (id:String) (r:V->List V->Hp->VK->Prop):Prop:=
 ∀(pins:List (Addr×Obj)) (s:Shared) (σ:St) (H:Hp) (x:V) (xs:List V) (v:Value) (us:List Value) (Q:VK),Inv X pins σ H s->RelV x v->Vals xs us->r x xs H Q->
  wpAny (model X.prog X.w) X.A (call (.builtin id) (v::us)) (EP X pins σ Q) X.xe s
theorem Vals.one {x:V} {us:List Value} (h:Vals [x] us):∃u,us=[u]/\RelV x u:=by
 cases h with | cons r t=>(cases t;exact⟨_,rfl,r⟩)
theorem Vals.two {x y:V} {us:List Value} (h:Vals [x,y] us):∃u v,us=[u,v]/\RelV x u/\RelV y v:=by
 cases h with | cons r t=>(cases t with | cons q t=>(cases t;exact⟨_,_,rfl,r,q⟩))
theorem Vals.reverse {xs:List V} {us:List Value} (h:Vals xs us):Vals xs.reverse us.reverse:=by
 induction h with
 | nil=>exact .nil
 | cons r t ih=>rw[List.reverse_cons,List.reverse_cons];exact Vals.append ih (.cons r .nil)
theorem Vals.rep {xs:List V} {us:List Value} (h:Vals xs us):∀k:Nat,Vals (List.replicate k xs).flatten (List.replicate k us).flatten
 | 0=> .nil
 | k+1=>by
  rw[List.replicate_succ,List.replicate_succ,List.flatten_cons,List.flatten_cons]
  exact Vals.append h (Vals.rep h k)
theorem kK5 (its:List Value):∀(k:Nat) (acc:List Value),
  List.foldl (fun x1 x2=>x1++x2) acc.toArray (List.replicate k its.toArray)=(acc++(List.replicate k its).flatten).toArray
 | 0,acc=>by simp
 | k+1,acc=>by
  have e:acc.toArray++its.toArray=(acc++its).toArray:=by simp
  have e2:(acc++its)++(List.replicate k its).flatten=acc++(List.replicate (k+1) its).flatten:=by
   rw[List.replicate_succ,List.flatten_cons,List.append_assoc]
  rw[<-e2,<-kK5 its k (acc++its),<-e,List.replicate_succ,List.foldl_cons]
section
variable {X:Cx} {pins:List (Addr×Obj)} {σ:St} {H:Hp} {s:Shared} {l b:Addr} {xs ys zs:List V}
theorem Inv.lset {its its':List Value} {n:Nat} {f:Array Value->Array Value} {t':Nat} (I:Inv X pins σ H s) (hH:H l=some (.lst xs))
  (e:s.heap.get? l=some {cls:= .type "list",data:= .seq its.toArray n}) (hf:f its.toArray=its'.toArray) (hv:Vals ys its') (hz:ys.length<=sizeLine):
  Inv X pins σ (upd H l (.lst ys)) {s with heap:=s.heap.update l (Obj.mapSeq f),toks:=t'}:=by
 have q:=PySem.IsL.update e f
 rw[hf] at q
 refine I.write (x:=l) (e:=l) (by rw[hH];exact trivial) (.inl rfl) (fun b' u hb hu=>(Heap.get?_update_other s.heap (Obj.mapSeq f) (Ne.symm hb)).trans hu) ⟨_,q⟩ ?_
 exact⟨hz,its',_,hv,q⟩
theorem Inv.lnew {its:List Value} {t':Nat} (I:Inv X pins σ H s) (hv:Vals ys its) (hz:ys.length<=sizeLine):
  Inv X pins σ (upd H s.heap.objs.size (.lst ys)) {s with heap:=s.heap.push {cls:= .type "list",data:= .seq its.toArray},toks:=t'}:=
 I.laid (fun _ _ q=>Heap.get?_push_of_some _ q) (Nat.le_refl _) ⟨hz,its,0,hv,Heap.get?_push_size _ rfl⟩
theorem Inv.fresh (I:Inv X pins σ H s):H s.heap.objs.size=none:=I.hok.fresh (Nat.le_refl _)
theorem Inv.lstM (I:Inv X pins σ H s) (hH:H l=some (.lst xs)):xs.length<=sizeLine/\∃(its:List Value) (n:Nat),Vals xs its/\xs.length=its.length/\s.heap.get? l=some {cls:= .type "list",data:= .seq its.toArray n}:=by
 obtain⟨z,its,n,r,e⟩:=I.hok l _ hH
 exact⟨z,its,n,r,r.length,e⟩
theorem kVc {n:Nat} (h:n<=sizeLine):Builtin.List.listTooLong n=false:=by
 unfold Builtin.List.listTooLong
 exact decide_eq_false (by omega)
end
section
variable {X:Cx}
def jKc:V->List V->Hp->VK->Prop:=fun x vs H Q=>∃l xs y,x= .ref l/\vs=[y]/\H l=some (.lst xs)/\xs.length<sizeLine/\Q .non (upd H l (.lst (xs++[y])))
theorem kY6:MtM X "list.append" jKc:=by
 intro pins s σ H x vs v us Q I rx rv h
 obtain⟨l,xs,y,rfl,rfl,hH,hz,q⟩:=h
 cases rx
 obtain⟨u,rfl,ru⟩:=rv.one
 obtain⟨z,its,n,r,hl,e⟩:=I.lstM hH
 refine call_meets F.slot_list_append ⟨_,e,rfl⟩ F.entry_list_append (F.args_list_append_2 _ _) (PySem.list_append l its.toArray n u (by rw[List.size_toArray];omega)) ⟨e,?_⟩
 refine⟨.non,_,I.lset (its':=its++[u]) hH e (by simp) (r.append (.cons ru .nil)) ?_,rfl,q⟩
 rw[List.length_append,List.length_singleton]
 omega
noncomputable def rCat:R2:=fun x y H Q=>∃l b xs zs,x= .ref l/\y= .ref b/\H l=some (.lst xs)/\H b=some (.lst zs)/\xs.length+zs.length<=sizeLine/\∀p,H p=none->Q (.ref p) (upd H p (.lst (xs++zs)))
theorem op_cat:OpR X (binaryOp .Add) rCat:=by
 intro pins s σ H x y v u Q I rx ry h
 obtain⟨l,b,xs,zs,rfl,rfl,hH,hB,hz,q⟩:=h
 cases rx
 cases ry
 obtain⟨z,its,n,r,hl,e⟩:=I.lstM hH
 obtain⟨z2,its2,n2,r2,hl2,e2⟩:=I.lstM hB
 refine PySem.P.add_list e e2 ?_ (by rw[List.size_toArray,List.size_toArray];omega)
 have ea:its.toArray++its2.toArray=(its++its2).toArray:=by simp
 rw[ea]
 exact⟨.ref _,_,I.lnew (t':=s.toks) (r.append r2) (by rw[List.length_append];omega),rfl,q _ I.fresh⟩
noncomputable def rRep:R2:=fun x y H Q=>∃l k xs,x= .ref l/\y= .int k/\H l=some (.lst xs)/\ -(2^63)<=k/\k<2^63/\xs.length*k.toNat<=sizeLine/\
 ∀p,H p=none->Q (.ref p) (upd H p (.lst (List.replicate k.toNat xs).flatten))
theorem qU8 {α:Type} (xs:List α) (k:Nat):(List.replicate k xs).flatten.length=k*xs.length:=by
 induction k with
 | zero=>simp
 | succ k ih=>rw[List.replicate_succ,List.flatten_cons,List.length_append,ih,Nat.succ_mul,Nat.add_comm]
theorem op_rep:OpR X (binaryOp .Mult) rRep:=by
 intro pins s σ H x y v u Q I rx ry h
 obtain⟨l,k,xs,rfl,rfl,hH,h1,h2,hz,q⟩:=h
 cases rx
 obtain⟨t,rfl⟩:=ry
 obtain⟨z,its,n,r,hl,e⟩:=I.lstM hH
 have hlen:its.toArray.size*k.toNat<=sizeLine:=by rw[List.size_toArray,<-hl];exact hz
 have hcap:¬ its.toArray.size*k.toNat>(2^63-1) / 8:=by
  have:(sizeLine:Nat)<=(2^63-1) / 8:=by decide
  omega
 have hfit:¬ (!Builtin.List.listFitsIndex k)=true:=by
  rw[fitsIndex_both h1 h2]
  exact Bool.false_ne_true
 have hlong:¬ Builtin.List.listTooLong (its.toArray.size*k.toNat)=true:=by
  rw[kVc hlen]
  exact Bool.false_ne_true
 have hnew:List.foldl (fun x1 x2=>x1++x2) #[] (List.replicate (if its.toArray.isEmpty=true then 0 else k.toNat) its.toArray)=(List.replicate k.toNat its).flatten.toArray:=by
  have f0:∀m:Nat,List.foldl (fun x1 x2=>x1++x2) #[] (List.replicate m its.toArray)=(List.replicate m its).flatten.toArray:=fun m=>by
   have:=kK5 its m []
   rw[List.nil_append] at this
   exact this
  rw[f0]
  cases its with
  | nil=>simp
  | cons a r'=>rw[if_neg (by simp)]
 refine wpAny_binaryOp_repeat_ref (T:="list") (U:="int") (by decide) ⟨_,e,rfl⟩ (fun s'=>typeIs_int s' k t) noFill_list_mul F.fills_int_mul F.slot_int_rmul repeat_list F.slot_int_index.lookup
  (call_meets F.slot_int_rmul (typeIs_int s k t) F.entry_int_rmul (F.args_int_rmul_2 _ _) (int___rmul___int_list k t l its.toArray n)
   ⟨e,rfl,⟨_,e,rfl⟩,call_meets F.slot_list_mul ⟨_,e,rfl⟩ F.entry_list_mul (F.args_list_mul_2 _ _) (AutoListH.list___mul___list_int_3 l its.toArray n k t hfit hcap hlong) ⟨e,?_⟩⟩)
 rw[hnew]
 exact⟨.ref _,_,I.lnew (t':=s.toks) (r.rep k.toNat) (by rw[qU8,Nat.mul_comm];exact hz),rfl,q _ I.fresh⟩
end
section
variable {prog:Program} {w:World} {A:Around} {E:Value->Shared->Prop} {s:Shared}
end
section
variable {X:Cx}
end
section
variable {κ:Type} [DecidableEq κ]
def valV (kvs:List (κ×V)) (k:κ):Option V:=(kvs.find? fun kv=>decide (kv.1=k)).map (·.2)
def putK (kvs:List (κ×V)) (k:κ) (v:V):List (κ×V):=
 if (kvs.any fun kv=>decide (kv.1=k))=true then kvs.map (fun kv=>if kv.1=k then (kv.1,v) else kv) else kvs++[(k,v)]
theorem jX9 {p:κ×V} {r:List (κ×V)} {k:κ} (e:p.1=k):valV (p::r) k=some p.2:=by simp[valV,List.find?_cons,e]
theorem jYa {p:κ×V} {r:List (κ×V)} {k:κ} (e:¬ p.1=k):valV (p::r) k=valV r k:=by simp[valV,List.find?_cons,e]
theorem kUu (k:κ):∀kvs:List (κ×V),(kvs.any fun kv=>decide (kv.1=k))=(valV kvs k).isSome
 | []=>rfl
 | p::r=>by
  rw[List.any_cons]
  by_cases e:p.1=k
  ·simp only[jX9 e,decide_eq_true e,Bool.true_or,Option.isSome_some]
  ·rw[jYa e,decide_eq_false e,Bool.false_or];exact kUu k r
theorem jVv (kvs:List (κ×V)) (k:κ) (v:V):(putK kvs k v).length<=kvs.length+1:=by
 unfold putK
 split
 ·rw[List.length_map];omega
 ·rw[List.length_append,List.length_cons,List.length_nil];omega
theorem RelO.isSome_eq {o:Option V} {u:Option Value} (r:RelO o u):o.isSome=u.isSome:=by
 cases o with
 | none=>cases u with
  | none=>rfl
  | some _=>exact (show False from r).elim
 | some _=>cases u with
  | none=>exact (show False from r).elim
  | some _=>rfl
theorem KV.val {kvs:List (κ×V)} {vs:List (κ×Value)} (r:KV kvs vs) (k:κ):RelO (valV kvs k) (valueAt vs k):=by
 unfold KV at r
 induction r with
 | nil=>exact True.intro
 | @cons p q ps qs h t ih=>
  obtain⟨h1,h2⟩:=h
  by_cases e:p.1=k
  ·have e':q.1=k:=h1.symm.trans e
   have b:valueAt (q::qs) k=some q.2:=by simp[valueAt,List.find?_cons,e']
   rw[jX9 e,b];exact h2
  ·have e':¬ q.1=k:=fun z=>e (h1.trans z)
   have b:valueAt (q::qs) k=valueAt qs k:=by simp[valueAt,List.find?_cons,e']
   rw[jYa e,b];exact ih
theorem KV.any {kvs:List (κ×V)} {vs:List (κ×Value)} (r:KV kvs vs) (k:κ):(kvs.any fun kv=>decide (kv.1=k))=vs.any fun kv=>decide (kv.1=k):=by
 unfold KV at r
 induction r with
 | nil=>rfl
 | cons h t ih=>rw[List.any_cons,List.any_cons,ih,h.1]
theorem KV.repl {kvs:List (κ×V)} {vs:List (κ×Value)} (r:KV kvs vs) (k:κ) {y:V} {u:Value} (ry:RelV y u):
  KV (kvs.map fun kv=>if kv.1=k then (kv.1,y) else kv) (vs.map fun kv=>if kv.1=k then (kv.1,u) else kv):=by
 unfold KV at r ⊢
 induction r with
 | nil=>exact .nil
 | @cons p q ps qs h t ih=>
  rw[List.map_cons,List.map_cons]
  refine .cons ?_ ih
  obtain⟨h1,h2⟩:=h
  by_cases e:p.1=k
  ·rw[if_pos e,if_pos (h1.symm.trans e)];exact⟨h1,ry⟩
  ·rw[if_neg e,if_neg (fun z=>e (h1.trans z))];exact⟨h1,h2⟩
theorem KV.put {kvs:List (κ×V)} {vs:List (κ×Value)} (r:KV kvs vs) (k:κ) {y:V} {u:Value} (ry:RelV y u):KV (putK kvs k y) (stored vs k u):=by
 unfold putK stored
 rw[r.any k]
 by_cases e:(vs.any fun kv=>decide (kv.1=k))=true
 ·rw[if_pos e,if_pos e];exact r.repl k ry
 ·rw[if_neg e,if_neg e];exact Paired.snoc r ⟨rfl,ry⟩
theorem KV.length {kvs:List (κ×V)} {vs:List (κ×Value)} (r:KV kvs vs):kvs.length=vs.length:=Paired.length r
end
theorem kUc {P:Program} {w:World} {k:Key} {u:Value} (r:RelV (kV k) u):(jJ6 P w).is k u=true:=by
 cases k with
 | inl i=>obtain⟨t,e⟩:=(show ∃t,u=Value.int i t from r);subst e;exact jZf P w i t
 | inr x=>obtain⟨t,e⟩:=(show ∃t,u=Value.str x t from r);subst e;exact kUa P w x t
abbrev KT (H:Hp):List (TKey×V)->List (TKey×Addr×Value)->Prop:=Paired fun p q=>p.1=q.1/\TKeyAt H p.1 q.2.1/\RelV p.2 q.2.2
theorem KT.val {H:Hp} {kvs:List (TKey×V)} {xs:List (TKey×Addr×Value)} (r:KT H kvs xs) (k:TKey):RelO (valV kvs k) ((atKey xs k).map (·.2)):=by
 induction r with
 | nil=>exact True.intro
 | @cons p q ps qs h t ih=>
  obtain⟨h1,_,h2⟩:=h
  by_cases e:p.1=k
  ·have e':q.1=k:=h1.symm.trans e
   have b:atKey (q::qs) k=some q.2:=by simp[atKey,List.find?_cons,e']
   rw[jX9 e,b];exact h2
  ·have e':¬ q.1=k:=fun z=>e (h1.trans z)
   have b:atKey (q::qs) k=atKey qs k:=by simp[atKey,List.find?_cons,e']
   rw[jYa e,b];exact ih
theorem KT.repl {H:Hp} {kvs:List (TKey×V)} {xs:List (TKey×Addr×Value)} (r:KT H kvs xs) (k:TKey) {y:V} {u:Value} (ry:RelV y u):
  KT H (kvs.map fun kv=>if kv.1=k then (kv.1,y) else kv) (xs.map (putAt k u)):=by
 induction r with
 | nil=>exact .nil
 | @cons p q ps qs h t ih=>
  rw[List.map_cons,List.map_cons]
  refine .cons ?_ ih
  obtain⟨h1,h2,h3⟩:=h
  unfold putAt
  by_cases e:p.1=k
  ·rw[if_pos e,if_pos (h1.symm.trans e)];exact⟨h1,h2,ry⟩
  ·rw[if_neg e,if_neg (fun z=>e (h1.trans z))];exact⟨h1,h2,h3⟩
theorem KT.put {H:Hp} {kvs:List (TKey×V)} {xs:List (TKey×Addr×Value)} (r:KT H kvs xs) (k:TKey) {b:Addr} {y:V} {u:Value} (hb:TKeyAt H k b) (ry:RelV y u):
  KT H (putK kvs k y) (storedH xs k b u):=by
 have e:(kvs.any fun kv=>decide (kv.1=k))=(atKey xs k).isSome:=by
  rw[kUu,(r.val k).isSome_eq,Option.isSome_map]
 unfold putK storedH
 rw[e]
 by_cases q:(atKey xs k).isSome=true
 ·rw[if_pos q,if_pos q];exact r.repl k ry
 ·rw[if_neg q,if_neg q];exact Paired.snoc r ⟨rfl,hb,ry⟩
theorem KT.keeps {H H':Hp} {kvs:List (TKey×V)} {xs:List (TKey×Addr×Value)} (r:KT H kvs xs) (ht:∀b ys,H b=some (.tup ys)->H' b=some (.tup ys)):KT H' kvs xs:=
 Paired.mapP r fun _ _ z=>⟨z.1,z.2.1.mono ht,z.2.2⟩
section
variable {P:Program} {w:World} {H:Hp} {h:Heap} {a:Addr}
theorem rd_of {u:HO} (ok:HOk P w H h) (e:Rd H a u):ObjOk P w H h a u:=e.ok ok
theorem qQo {kvs:List (Key×V)} (ok:HOk P w H h) (e:Rd H a (.dK kvs)):kvs.length<=sizeLine/\(a == sysModules)=false/\∃vs,KV kvs vs/\h.DictOf (jJ6 P w) a vs:=
 show ObjOk P w H h a (.dK kvs) from rd_of ok e
theorem dk_of {kvs:List (Key×V)} (ok:HOk P w H h) (e:H a=some (.dK kvs)):kvs.length<=sizeLine/\(a == sysModules)=false/\∃vs,KV kvs vs/\h.DictOf (jJ6 P w) a vs:=qQo ok (.inl e)
theorem kVh {K:Type} [DecidableEq K] {c:Nat} {T:KeyV P w K c} {R:K->V->Prop} (hR:∀k x u,R k x->RelV x u->T.is h k u):∀ {ks:List K} {xs:List V} {us:List Value},Paired R ks xs->Vals xs us->ItemsV T h ks us
 | _,_,_,.nil,.nil=> .nil
 | _,_,_,.cons r t,.cons q z=> .cons (hR _ _ _ r q) (kVh hR t z)
theorem kQp {K:Type} [DecidableEq K] {c:Nat} {T:KeyV P w K c} {R:K->V->Prop} {ks:List K} {xs:List V} {p:Addr} (ok:HOk P w H h) (hR:∀k x u,R k x->RelV x u->T.is h k u) (e:H p=some (.tup xs)) (r:Paired R ks xs):qJt T h ks (.ref p):=by
 obtain⟨_,its,q,o,h1,h2,n,h3,_⟩:=(show ObjOk P w H h p (.tup xs) from ok p _ e)
 exact⟨p,o,its.toArray,n,rfl,h1,h2,h3,by simpa using kVh hR r q⟩
theorem r1_of (ok:HOk P w H h) (k:K1) (x:V) (u:Value) (r:Rk1 H k x) (q:RelV x u):(vk1 P w).is h k u:=by
 cases k with
 | inl k=>cases (show x=kV k from r);exact kUc (P:=P) (w:=w) q
 | inr ks=>
  obtain⟨p,vs,rfl,e,t⟩:=(show ∃p vs,x= .ref p/\H p=some (.tup vs)/\Paired (fun k v=>v=kV k) ks vs from r)
  cases (show u=Value.ref p from q)
  exact kQp (T:=kVv P w) ok (fun k x u r q=>by subst r;exact kUc (P:=P) (w:=w) q) e t
theorem r2_of (ok:HOk P w H h) (k:K2) (x:V) (u:Value) (r:Rk2 H k x) (q:RelV x u):(vk2 P w).is h k u:=by
 cases k with
 | inl k=>cases (show x=kV k from r);exact kUc (P:=P) (w:=w) q
 | inr ks=>
  obtain⟨p,vs,rfl,e,t⟩:=(show ∃p vs,x= .ref p/\H p=some (.tup vs)/\Paired (Rk1 H) ks vs from r)
  cases (show u=Value.ref p from q)
  exact kQp (T:=vk1 P w) ok (r1_of ok) e t
theorem kK1 {ks:TKey} (ok:HOk P w H h) (e:TKeyAt H ks a):(jUk P w).is h ks a:=by
 obtain⟨vs,h1,t⟩:=e
 exact kQp (T:=vk2 P w) ok (r2_of ok) h1 t
theorem kZ8 {kvs:List (TKey×V)} (ok:HOk P w H h) (e:Rd H a (.dT kvs)):kvs.length<=sizeLine/\(a == sysModules)=false/\
  ∃xs,KT H kvs xs/\h.DictOfH (jUk P w) a xs:=by
 obtain⟨z,y,xs,r,o,es,ep,h1,h2,h3,h4,h5⟩:=(show ObjOk P w H h a (.dT kvs) from rd_of ok e)
 refine⟨z,y,xs,r,o,es,ep,h1,h2,h3,h4,fun x hx=> ?_,h5⟩
 have all:∀ {l:List (TKey×V)} {m:List (TKey×Addr×Value)},KT H l m->∀x∈m,(jUk P w).is h x.1 x.2.1:=by
  intro l m q
  induction q with
  | nil=>intro x hx;exact nomatch hx
  | @cons p q ps qs hq t ih=>
   intro x hx
   rcases (List.mem_cons.mp hx) with e | hx
   ·subst e
    exact kK1 ok (by rw[<-hq.1];exact hq.2.1)
   ·exact ih x hx
 exact all r x hx
theorem dt_of {kvs:List (TKey×V)} (ok:HOk P w H h) (e:H a=some (.dT kvs)):kvs.length<=sizeLine/\(a == sysModules)=false/\
  ∃xs,KT H kvs xs/\h.DictOfH (jUk P w) a xs:=kZ8 ok (.inl e)
end
def DGet (H:Hp) (a:Addr) (y:V) (r:Option V):Prop:=
 (∃kvs k,Rd H a (.dK kvs)/\y=kV k/\r=valV kvs k)\/∃kvs k b,Rd H a (.dT kvs)/\y= .ref b/\TKeyAt H k b/\r=valV kvs k
noncomputable def DPut (H:Hp) (a:Addr) (y v:V) (H':Hp):Prop:=
 (∃kvs k,H a=some (.dK kvs)/\y=kV k/\kvs.length<sizeLine/\H'=upd H a (.dK (putK kvs k v)))\/
 ∃kvs k b,H a=some (.dT kvs)/\y= .ref b/\TKeyAt H k b/\kvs.length<sizeLine/\H'=upd H a (.dT (putK kvs k v))
theorem DGet.k {H:Hp} {a:Addr} {kvs:List (Key×V)} {k:Key} (e:H a=some (.dK kvs)):DGet H a (kV k) (valV kvs k):= .inl ⟨kvs,k,.inl e,rfl,rfl⟩
theorem DGet.t {H:Hp} {a b:Addr} {kvs:List (TKey×V)} {k:TKey} (e:H a=some (.dT kvs)) (eb:TKeyAt H k b):DGet H a (.ref b) (valV kvs k):= .inr ⟨kvs,k,b,.inl e,rfl,eb,rfl⟩
theorem DPut.k {H:Hp} {a:Addr} {kvs:List (Key×V)} {k:Key} {v:V} (e:H a=some (.dK kvs)) (hl:kvs.length<sizeLine):DPut H a (kV k) v (upd H a (.dK (putK kvs k v))):= .inl ⟨kvs,k,e,rfl,hl,rfl⟩
theorem DPut.t {H:Hp} {a b:Addr} {kvs:List (TKey×V)} {k:TKey} {v:V} (e:H a=some (.dT kvs)) (eb:TKeyAt H k b) (hl:kvs.length<sizeLine):
  DPut H a (.ref b) v (upd H a (.dT (putK kvs k v))):= .inr ⟨kvs,k,b,e,rfl,eb,hl,rfl⟩
section
variable {X:Cx} {pins:List (Addr×Obj)} {σ:St} {H:Hp} {s:Shared} {a:Addr} {y v:V} {u r:Value} {o:Option V} {A:Around} {E:Value->Shared->Prop}
theorem Inv.big (I:Inv X pins σ H s):sysModules<s.heap.objs.size:=by
 have h:mainGlobals<s.heap.objs.size:=(I.mod.glob.keeps I.bk).lt
 exact Nat.lt_trans (by decide) h
theorem qJb {Q:Value->Shared->Prop} (hu:A.units+20<cLine) (I:Inv X pins σ H s) (g:DGet H a y (some v)) (ry:RelV y u) (h:∀w' s',Inv X pins σ H s'->RelV v w'->Q w' s'):
  wpAny (model X.prog X.w) A (getItem (.ref a) u) Q E s:=by
 rcases g with ⟨kvs,k,e,ey,l⟩ | ⟨kvs,k,b,e,ey,eb,l⟩
 ·subst ey
  obtain⟨z,hd,vs,rel,dd⟩:=qQo I.hok e
  obtain⟨w',hw,rw'⟩:=RelO.some_of (v:=v) (o:=valueAt vs k) (by rw[l];exact rel.val k)
  exact wpAny_getItem_of (kUc ry) dd.mapOf hw (h w' _ (I.tok _) rw')
 ·subst ey
  cases (show u=Value.ref b from ry)
  obtain⟨z,hd,xs,rel,dd⟩:=kZ8 I.hok e
  obtain⟨w',hw,rw'⟩:=RelO.some_of (v:=v) (o:=(atKey xs k).map (·.2)) (by rw[l];exact rel.val k)
  obtain⟨p,hp,hp2⟩:=Option.map_eq_some_iff.mp hw
  refine wpAny_getItem_heap (jKs hu) (kK1 I.hok eb) dd hp ?_
  rw[hp2]
  exact h w' _ (I.tok _) rw'
theorem qV2 {Q:Value->Shared->Prop} (hu:A.units+20<cLine) (I:Inv X pins σ H s) (g:DGet H a y o) (ry:RelV y u) (h:∀s',Inv X pins σ H s'->Q (.bool (!o.isSome)) s'):
  wpAny (model X.prog X.w) A (compareOp .NotIn u (.ref a)) Q E s:=by
 rcases g with ⟨kvs,k,e,ey,l⟩ | ⟨kvs,k,b,e,ey,eb,l⟩
 ·subst ey
  obtain⟨z,hd,vs,rel,dd⟩:=qQo I.hok e
  refine wpAny_notIn_of (kUc ry) hd dd.mapOf ?_
  rw[<-(rel.val k).isSome_eq,<-l]
  exact h _ (I.tok _)
 ·subst ey
  cases (show u=Value.ref b from ry)
  obtain⟨z,hd,xs,rel,dd⟩:=kZ8 I.hok e
  refine wpAny_notIn_heap (jKs hu) (kK1 I.hok eb) hd dd ?_
  have q:=(rel.val k).isSome_eq
  rw[Option.isSome_map] at q
  rw[<-q,<-l]
  exact h _ (I.tok _)
theorem kUj {h':Heap} {t':Nat} {ob:HO} (I:Inv X pins σ H s) (mu:Mut (H a)) (hs:Heap.SameBut a s.heap h') (he:∃q,h'.get? a=some q) (new:ObjOk X.prog X.w (upd H a ob) h' a ob):
  Inv X pins σ (upd H a ob) {s with heap:=h',toks:=t'}:=
 I.write (x:=a) (e:=a) mu (.inl rfl) (fun b q hb z=>(hs.2 b hb).trans z) he new
theorem qUd {P:Program} {w:World} {H':Hp} {h':Heap} {kvs:List (Key×V)} {vs:List (Key×Value)} (z:kvs.length<=sizeLine) (hd:(a == sysModules)=false) (rel:KV kvs vs) (dd:h'.DictOf (jJ6 P w) a vs):
  ObjOk P w H' h' a (.dK kvs):=⟨z,hd,vs,rel,dd⟩
theorem kQa {H':Hp} {Q:Unit->Shared->Prop} (hu:A.units+20<cLine) (I:Inv X pins σ H s) (g:DPut H a y v H') (ry:RelV y u) (rv:RelV v r) (h:∀s',Inv X pins σ H' s'->Q () s'):
  wpAny (model X.prog X.w) A (setItem (.ref a) u r) Q E s:=by
 rcases g with ⟨kvs,k,e,ey,l,eH⟩ | ⟨kvs,k,b,e,ey,eb,l,eH⟩
 ·subst ey eH
  obtain⟨z,hd,vs,rel,dd⟩:=dk_of I.hok e
  have hz:vs.length<=sizeLine:=by rw[<-rel.length];exact z
  have hl:(putK kvs k v).length<=sizeLine:=by have:=jVv kvs k v;omega
  refine wpAny_setItem_pairs (hsz:=hz) (kUc ry) dd fun h' dd' hs=>h _ ?_
  have he:∃q,h'.get? a=some q:=let ⟨q,_,_,hq,_⟩:=dd';⟨q,hq⟩
  exact kUj I (by rw[e];exact True.intro) hs he (qUd hl hd (rel.put k rv) dd')
 ·subst ey eH
  cases (show u=Value.ref b from ry)
  obtain⟨z,hd,xs,rel,dd⟩:=dt_of I.hok e
  have hz:xs.length<=sizeLine:=by rw[<-Paired.length rel];exact z
  have hl:(putK kvs k v).length<=sizeLine:=by have:=jVv kvs k v;omega
  refine wpAny_setItem_heap (hsz:=hz) (jKs hu) (kK1 I.hok eb) dd fun h' dd' hs=>h _ ?_
  obtain⟨q,es,ep,hq,h2,h3,h4,_,h5⟩:=dd'
  refine kUj I (by rw[e];exact True.intro) hs ⟨q,hq⟩ ⟨hl,hd,_,(rel.put k eb rv).keeps fun c ys ec=> ?_,q,es,ep,hq,h2,h3,h4,h5⟩
  rw[jJz (ne_of ec e (fun z=>nomatch z))]
  exact ec
end
section
variable {X:Cx} {pins:List (Addr×Obj)} {σ:St} {H:Hp} {s:Shared} {a:Addr} {kvs:List (Key×V)} {k:Key} {u:Value} {A:Around} {E:Value->Shared->Prop}
end
theorem kUi {X:Cx} {pins:List (Addr×Obj)} {σ:St} {H:Hp} {s:Shared} {a:Addr} {y:V} {o:Option V} (I:Inv X pins σ H s) (g:DGet H a y o):s.TypeIs (.ref a) "dict":=by
 rcases g with ⟨kvs,k,e,_,_⟩ | ⟨kvs,k,b,e,_,_,_⟩
 ·obtain⟨_,_,vs,_,dd⟩:=qQo I.hok e
  exact dd.typeIs
 ·obtain⟨_,_,xs,_,dd⟩:=kZ8 I.hok e
  exact dd.typeIs
section
variable {X:Cx} {o i e value:Expr} {pos pos' tpos:Pos} {td ty tv:TE}
end
theorem kVt {P:Program} {w:World} {H:Hp} (h:Heap) (hb:sysModules<h.objs.size):ObjOk P w H (h.push {cls:= .type "dict",data:= .dict #[]}) h.objs.size (.dK []):=
 ⟨Nat.zero_le _,beq_eq_false_iff_ne.mpr (Ne.symm (Nat.ne_of_lt hb)),[],.nil,Heap.DictOf.new h⟩
theorem qQn {P:Program} {w:World} {H:Hp} (h:Heap) (hb:sysModules<h.objs.size):ObjOk P w H (h.push {cls:= .type "dict",data:= .dict #[]}) h.objs.size (.dT []):=
 ⟨Nat.zero_le _,beq_eq_false_iff_ne.mpr (Ne.symm (Nat.ne_of_lt hb)),[],.nil,_,#[],0,Heap.get?_push_size _ rfl,⟨rfl,rfl,rfl⟩,rfl,rfl,List.nodup_nil⟩
def tDNewK:TE:=fun _ H Q=>∀p,H p=none->Q (.ref p) (upd H p (.dK []))
def tDNewT:TE:=fun _ H Q=>∀p,H p=none->Q (.ref p) (upd H p (.dT []))
section
variable {X:Cx} {pos:Pos}
theorem qKp:PE X (.Dict [] [] pos) tDNewK:=fun pins s σ H Q I h=>
 wpAny_Dict_empty ⟨.ref s.heap.objs.size,_,I.laid (a:=s.heap.objs.size) (o:= .dK []) (t':=s.toks) (fun _ _ q=>Heap.get?_push_of_some _ q) (Nat.le_refl _) (kVt s.heap I.big),rfl,h _ (I.hok.fresh (Nat.le_refl _))⟩
theorem qKo:PE X (.Dict [] [] pos) tDNewT:=fun pins s σ H Q I h=>
 wpAny_Dict_empty ⟨.ref s.heap.objs.size,_,I.laid (a:=s.heap.objs.size) (o:= .dT []) (t':=s.toks) (fun _ _ q=>Heap.get?_push_of_some _ q) (Nat.le_refl _) (qQn s.heap I.big),rfl,h _ (I.hok.fresh (Nat.le_refl _))⟩
end
abbrev VV:List (V×V)->List (Value×Value)->Prop:=Paired fun p q=>RelV p.1 q.1/\RelV p.2 q.2
def kJd (kvs more:List (Key×V)):List (Key×V):=more.foldl (fun acc kv=>putK acc kv.1 kv.2) kvs
theorem KV.merge:∀ {more:List (Key×V)} {rs:List (Key×Value)} {kvs:List (Key×V)} {vs:List (Key×Value)},KV more rs->KV kvs vs->KV (kJd kvs more) (merged vs rs):=by
 intro more rs kvs vs r
 unfold KV at r
 induction r generalizing kvs vs with
 | nil=>intro q;exact q
 | @cons p q ps qs h t ih=>
  intro r0
  have e:KV (putK kvs p.1 p.2) (stored vs q.1 q.2):=by
   have:=r0.put p.1 h.2
   rw[<-h.1];exact this
  exact ih e
theorem jV8:∀(more kvs:List (Key×V)),(kJd kvs more).length<=kvs.length+more.length
 | [],kvs=>by show kvs.length<=kvs.length+0;omega
 | p::r,kvs=>by
  have h1:=jV8 r (putK kvs p.1 p.2)
  have h2:=jVv kvs p.1 p.2
  show (kJd (putK kvs p.1 p.2) r).length<=_
  rw[List.length_cons];omega
theorem kJj {P:Program} {w:World}:∀ {kvs:List (Key×V)} {ws:List (Value×Value)},VV (kvs.map fun kv=>(kV kv.1,kv.2)) ws->∃rs,Carries (jJ6 P w) ws rs/\KV kvs rs
 | [],_,r=>by rw[List.map_nil] at r;cases r;exact⟨[],True.intro,.nil⟩
 | p::kvs,_,r=>by
  rw[List.map_cons] at r
  cases r with
  | @cons a b as bs h t=>
   obtain⟨rs,c,q⟩:=kJj (P:=P) (w:=w) t
   obtain⟨b1,b2⟩:=b
   exact⟨(p.1,b2)::rs,⟨kUc h.1,rfl,c⟩,.cons ⟨rfl,h.2⟩ q⟩
section
variable {X:Cx} {pins:List (Addr×Obj)} {σ:St} {H:Hp} {s:Shared} {a:Addr} {y d:V} {u r:Value} {o:Option V} {A:Around} {E:Value->Shared->Prop}
end
section
variable {X:Cx} {o e f:Expr} {apos cpos:Pos} {td ty tx:TE}
end
section
variable {X:Cx} {pins:List (Addr×Obj)} {σ:St} {H:Hp} {s:Shared} {a:Addr} {kvs:List (Key×V)} {A:Around} {E:Value->Shared->Prop}
end
section
variable {X:Cx} {pins:List (Addr×Obj)} {σ:St} {H:Hp} {s:Shared} {a:Addr} {y:V} {u:Value} {A:Around} {E:Value->Shared->Prop}
end
end L2
namespace Att
open PySem PySem.W PySem.Calls PyProof.Rows
theorem jZj {P:Params} {h:Heap}:∀(ns:List Int) (vs:List Value),WellAll P h vs (ns.map WData.int)->IntsAre vs ns:=by
 intro ns
 induction ns with
 | nil=>
  intro vs w
  rw[List.map_nil] at w
  cases w
  exact .nil
 | cons n ns ih=>
  intro vs w
  rw[List.map_cons] at w
  cases w with
  | cons a b=>
   cases a
   exact .cons _ _ (ih _ b)
theorem kX8 {l:OpenLaw} {n:Nat} (hn:l.most=some n) {P:Params} {h:Heap} {args:List WData} {vals:List Value}
  (hpre:l.row.toRowW.claim.pre args=true) (hwl:WellAll P h vals args):
  ∃a vs ns,vals=[Value.ref a]/\args=[WData.list (ns.map WData.int)]/\h.get? a=some {cls:= .type "list",data:= .seq vs.toArray}/\IntsAre vs ns/\ns.length<=n:=by
 have hsh:WShape.hasAll [] args [.list .int]=true:=(pre_splitW hpre).1
 have hc:l.pre.holds [] {args:=args}=true:=(pre_splitW hpre).2
 obtain⟨d,r,rfl,h1,h2⟩:=hasAllW_cons hsh
 obtain rfl:=hasAllW_nil h2
 obtain⟨xs,rfl,h3⟩:=hasW_list h1
 obtain⟨ns,rfl⟩:=items_int h3
 have hlen:ns.length<=n:=by
  unfold OpenLaw.pre at hc
  have h4:(WTm.not (.lt (.lit (.int (n:Int))) (.len (.arg 0)))).holds [] {args:=[.list (ns.map .int)]}=true:=by
   have h4:=(holds_andW hc).1
   rw[hn] at h4
   exact h4
  have h5:=condW_of h4 (w_not (w_lt w_lit (w_len_list (w_arg rfl))))
  rw[List.length_map] at h5
  refine Nat.le_of_not_lt fun q=> ?_
  have q':(n:Int)<((ns.length:Nat):Int):=by omega
  first
   | (rw[decide_eq_true q'] at h5;exact absurd h5 (by decide))
   | (simp at h5;omega)
 cases hwl with
 | cons w1 w2=>
  cases w2
  cases w1 with
  | list ho hall=>exact⟨_,_,ns,rfl,rfl,ho,jZj ns _ hall,hlen⟩
theorem kYw (l:OpenLaw) (args:List WData):l.row.toRowW.claim.post args (.bool true) args=true:=
 postW_of (r:=l.row.toRowW) (X:=(true == true))
  (show WShape.has [] (.bool true) .bool=true by first | rfl | decide | simp[WShape.has,WShape.arms,WShape.armsAll])
  (show (WTm.eq .res (.lit (.bool true))).value [] {args:=args,res:=some (.bool true),after:=args}=some (.bool (true == true)) from w_eq_bool (w_res rfl) w_lit) rfl
theorem attach_call {l:OpenLaw} {n:Nat} {q:Program} {loose:List Str} {XP:(Str->Option Value)->Heap->Prop} {YP:World->Heap->Prop} {d:DefRec}
  (hn:l.most=some n) (hdf:d.params.defaults=[])
  (call:∀(w:World) (s₀ s₁:Shared) (mg mb:Str->Option Value) (fa:Addr) (o:Obj) (pm cd doc:Value) (a:Addr) (vs:List Value) (ns:List Int),
   Ground q loose [] XP w s₀ mg mb s₁.heap->YP w s₁.heap->
   s₁.heap.get? fa=some o->o.data= .func (docDef d.name d.params d.body d.scope pm cd doc)->s₁.heap.CodeRec cd d.name->mg d.name=some (.ref fa)->
   s₁.heap.get? a=some {cls:= .type "list",data:= .seq vs.toArray}->IntsAre vs ns->ns.length<=n->s₁.gens= #[]->
   codeAny (model l.prog w) callerA (.call (.ref fa) ⟨[.ref a],[]⟩) (fun r s'=>r= .ok (.ret (.bool true))/\OldK s₁.heap s'.heap/\s'.os=s₁.os/\AllBare s'.gens) s₁):
  WalkO q loose XP YP l.row.toRowW d [] (fun f vs=>PySem.call f vs):=by
 intro w s₀ s₁ mg mb G Y fa o pm cd doc dV kV ho hd hcd hD hmg hg args vals as hpre hlay hrd hwl hlo
 obtain rfl:dV= .none:=Dflts.none hD hdf
 obtain rfl:kV= .none:=Dflts.noKw hD
 obtain⟨a,vs,ns,rfl,rfl,hobj,hints,hlen⟩:=kX8 hn hpre hwl
 refine enter_call (codeAny_mono (call w s₀ s₁ mg mb fa o pm cd doc a vs ns G Y ho (fd_plain hd) hcd hmg hobj hints hlen hg) fun r s' hq=> ?_)
 obtain⟨rfl,h2,h3,h4⟩:=hq
 exact⟨.inl ⟨.bool true,.bool true,[],rfl,fun _=>rfl,.bool true,kYw l _,fun _=>⟨List.Pairwise.nil,fun _ hm=>(nomatch hm)⟩⟩,h2,h3,h4⟩
section
variable {prog:Program} {w:World} {A:Around} {E:Value->Shared->Prop} {s:Shared} {K:Frag}
end
end Att
namespace L2
open PySem PySem.Spec PyProof.Rows
theorem jUd:∀ {vs:List Value} {ns:List Int},IntsAre vs ns->Vals (ns.map V.int) vs
 | _,_,.nil=> .nil
 | _,_,.cons n t h=> .cons ⟨t,rfl⟩ (jUd h)
def Only (H:Hp):Prop:=∀b,H b=none\/∃o xs,H b=some (.frz o (.lst xs))
theorem qK5 {P:Program} {w:World} {K:PySem.W.Frag} {mg mb:Str->Option Value} {CX:CXT} {k:Nat} {fa a:Addr} {fd:FuncData} {x:Str} {sp:Sp} {s₁:Shared} {vs:List Value} {ns:List Int}
  (KX:K.In s₁.heap) (hns:s₁.heap.Ns mainGlobals mg) (hb:s₁.heap.Ns builtinsNs mb) (hbb:∀x:Str,x≠"__name__"->mb x=bootBuiltins x) (hlim:s₁.heap.NoLimit) (hg:s₁.gens= #[])
  (ha:s₁.heap.get? a=some {cls:= .type "list",data:= .seq vs.toArray}) (hi:IntsAre vs ns) (hl:ns.length<=sizeLine) (hr:Room k callerA)
  (F:∀base:Heap,K.In base->base.Ns mainGlobals mg->FnOk P w K mg base CX k fa fd [x] sp) (hbind:∀(s:Shared) (u:Value),BindsTo s fd ⟨[u],[]⟩ [(x,u)])
  (hsp:∀H:Hp,Only H->SqL K H a (ns.map V.int)->sp [.ref a] H (fun v _=>v= .bl true) fun _ _ _=>False)
  (hCX:∀H e s',CX [] H s₁ (fun _ _ _=>False) e s'->False):
  codeAny (model P w) callerA (.call (.ref fa) ⟨[.ref a],[]⟩) (fun r s'=>r= .ok (.ret (.bool true))/\OldK s₁.heap s'.heap/\s'.os=s₁.os/\AllBare s'.gens) s₁:=by
 have rv:=jUd hi
 have lenV:=hi.length
 have core:∀H:Hp,Only H->SqL K H a (ns.map V.int)->HOk P w H s₁.heap->(∀b,H b≠none->b=a)->(H a≠none->K.lookup a=none)->
   codeAny (model P w) callerA (.call (.ref fa) ⟨[.ref a],[]⟩) (fun r s'=>r= .ok (.ret (.bool true))/\OldK s₁.heap s'.heap/\s'.os=s₁.os/\AllBare s'.gens) s₁:=by
  intro H hO hS hok hA hK
  have base_of:∀ {b:Addr} {o:Obj},s₁.heap.get? b=some o->H b=none->(hidT s₁.heap H).get? b=some o:=fun e n=>qQd e n
  have noA:∀ {b:Addr} {o:Obj} {es:Array DictEntry} {ep:Nat},s₁.heap.get? b=some o->o.data= .dict es ep->H b=none:=fun {b o es ep} e d=>by
   cases q:H b with
   | none=>rfl
   | some u=>
    have e':b=a:=hA b (by rw[q];simp)
    subst e'
    rw[ha] at e;cases e
    have d':Data.seq vs.toArray _=Data.dict es ep:=d
    cases d'
  have nsK:∀ {b:Addr} {m:Str->Option Value},s₁.heap.Ns b m->(hidT s₁.heap H).Ns b m:=fun {b m} ⟨o,es,ep,e,d,r⟩=>⟨o,es,ep,base_of e (noA e d),d,r⟩
  have hKb:K.In (hidT s₁.heap H):=fun b o e=>base_of (KX b o e) (by
   cases q:H b with
   | none=>rfl
   | some u=>
    have e':b=a:=hA b (by rw[q];simp)
    subst e'
    rw[hK (by rw[q];simp)] at e;cases e)
  have hM:Mod K mg (hidT s₁.heap H):=⟨hKb,nsK hns,⟨mb,nsK hb,hbb⟩,let ⟨mc,h1,h2⟩:=hlim;⟨mc,nsK h1,h2⟩⟩
  have e0:Env0 P w K mg (hidT s₁.heap H) callerA [] s₁ H:=⟨rfl,hM,fun b o e=>qU2 e,Nat.le_of_eq (kZl _ _),trivial,fun b hb=>absurd (show b∈([]:List Addr) from hb) (by simp),hok,.of_eq hg⟩
  refine codeAny_mono ((F _ hKb (nsK hns)).run callerA [] s₁ H ⟨[.ref a],[]⟩ [.ref a] [.ref a] _ _ hr e0 (hbind s₁ (.ref a)) (.cons rfl .nil) (hsp H hO hS)) fun r s' h=> ?_
  cases r with
  | error e=>exact (hCX H e s' h).elim
  | ok fl=>
   cases fl with
   | next=>exact False.elim h
   | brk=>exact False.elim h
   | cont=>exact False.elim h
   | ret u=>
    obtain⟨v,H',os,bare,un,hok',r',q⟩:=h
    have q':v= .bl true:=q
    subst q'
    obtain rfl:u=Value.bool true:=r'
    refine⟨rfl,OldK.of_keep fun b o e=> ?_,os,bare⟩
    cases q:H b with
    | none=>exact un.keep b o e q (by intro z;exact absurd (show b∈([]:List Addr) from z) (by simp)) (by simp)
    | some u=>
     rcases hO b with z | ⟨ob,xs,z⟩
     ·rw[q] at z;cases z
     ·have z2:=un.frzs b ob _ z
      obtain⟨e1,_⟩:=hok b _ z
      obtain⟨e2,_⟩:=hok' b _ z2
      rw[e] at e1;cases e1
      exact e2
 cases hk:K.lookup a with
 | some o=>
  have e:=KX a o hk
  rw[ha] at e
  cases e
  refine core (fun _=>none) (fun _=> .inl rfl) (.inr ⟨_,vs.toArray,_,hk,rfl,rfl,rfl,by rw[List.size_toArray,lenV];exact hl,by simpa using rv⟩) (fun b u z=>by have z':(none:Option HO)=some u:=z;cases z') (fun b z=>absurd rfl z) fun z=>absurd rfl z
 | none=>
  refine core (fun b=>if b=a then some (.frz {cls:= .type "list",data:= .seq vs.toArray} (.lst (ns.map V.int))) else none) (fun b=> ?_) (.inl (.inr ⟨{cls:= .type "list",data:= .seq vs.toArray},if_pos rfl⟩)) (fun b u z=> ?_) (fun b z=> ?_) fun _=>hk
  ·by_cases hb:b=a
   ·exact .inr ⟨_,_,if_pos hb⟩
   ·exact .inl (if_neg hb)
  ·by_cases hb:b=a
   ·have z':=(if_pos hb).symm.trans z
    cases z'
    subst hb
    exact⟨ha,by rw[List.length_map];exact hl,vs,_,rv,ha⟩
   ·have z':=(if_neg hb).symm.trans z
    cases z'
  ·by_cases hb:b=a
   ·exact hb
   ·exact absurd (if_neg hb) z
theorem walk_of {l:PySem.W.OpenLaw} {n k:Nat} {q:Program} {loose:List Str} {XP:(Str->Option Value)->Heap->Prop} {YP:World->Heap->Prop} {d:DefRec} {K:Params->PySem.W.Frag} {CX:World->CXT} {sp:World->Sp} {x:Str}
  (hn:l.most=some n) (hn2:n<=sizeLine) (hdf:d.params.defaults=[]) (hr:Room k callerA)
  (hY:∀(w:World) (h:Heap),YP w h->(K w.params).In h)
  (F:∀(w:World) (mg:Str->Option Value) (fa:Addr) (h:Heap),(K w.params).In h->h.Ns mainGlobals mg->mg d.name=some (.ref fa)->
   ∃fd:FuncData,(∀(s:Shared) (u:Value),BindsTo s fd ⟨[u],[]⟩ [(x,u)])/\
    ∀base:Heap,(K w.params).In base->base.Ns mainGlobals mg->FnOk l.prog w (K w.params) mg base (CX w) k fa fd [x] (sp w))
  (hsp:∀(w:World) (H:Hp) (a:Addr) (ns:List Int),ns.length<=n->Only H->SqL (K w.params) H a (ns.map V.int)->sp w [.ref a] H (fun v _=>v= .bl true) fun _ _ _=>False)
  (hCX:∀(w:World) (H:Hp) (s:Shared) (e:Value) (s':Shared),CX w [] H s (fun _ _ _=>False) e s'->False):
  PySem.W.WalkO q loose XP YP l.row.toRowW d [] (fun f vs=>PySem.call f vs):=by
 refine Att.attach_call hn hdf fun w s₀ s₁ mg mb fa o pm cd doc a vs ns G Y ho hd hcd hmg hobj hints hlen hg=> ?_
 have KX:=hY w _ Y
 obtain⟨fd,hb,hF⟩:=F w mg fa _ KX G.T.g hmg
 exact qK5 KX G.T.g G.T.b G.T.builtins G.T.nolimit hg hobj hints (Nat.le_trans hlen hn2) hr hF hb (fun H hO hS=>hsp w H a ns hlen hO hS) fun H e s'=>hCX w H s₁ e s'
def jVx (s:Stmt) (j:Nat):Stmt:=match s with
 | .ClassDef _ _ _ body _ _ _ _ _ _ _=>body.getD j (.Pass ⟨0,0,0,0⟩)
 | _=> .Pass ⟨0,0,0,0⟩
noncomputable def jQl (s:Stmt):Arguments:=match s with
 | .FunctionDef _ a _ _ _ _ _ _ _ _=>a
 | _=>{posonlyargs:=[],args:=[],vararg:=none,kwonlyargs:=[],kw_defaults:=[],kwarg:=none,defaults:=[]}
def jKi (s:Stmt):List Stmt:=match s with
 | .FunctionDef _ _ b _ _ _ _ _ _ _=>b
 | _=>[]
def jJl (s:Stmt):Scope:=match s with
 | .FunctionDef _ _ _ _ _ _ sc _ _ _=>sc
 | _=>{kind:= .function,names:=[],isGenerator:=false,isCoroutine:=false}
abbrev CX0:CXT:=fun _ _ _ _ _ _=>False
abbrev E0:XK:=fun _ _ _=>False
theorem qKq {X:Cx}:qJp CX0 X E0:=fun _ _ _ _ _ _ _ h=>h.elim
structure Fun (K:PySem.W.Frag) (x qual:Str) (st:Stmt) (f:Addr) (fd:FuncData):Prop where
 ex:∃(oc:Value) (od:Option Addr) (kV doc pm:Value) (an:Option Addr) (cdv ct:Value) (osl:Array (Option Value)),
  fd=PySem.W.fnOf x qual (jQl st) (jKi st) (jJl st) .none kV doc pm an cdv ct/\K.lookup f=some ⟨oc,od,.func fd,osl⟩/\PySem.W.codeIn K cdv qual=true
 kp:PySem.W.keepIn K (.ref f)=true
section
variable {P:Program} {w:World} {K:PySem.W.Frag} {mg:Str->Option Value} {base:Heap}
theorem Fun.ok {x qual:Str} {st:Stmt} {f:Addr} {fd:FuncData} {N ps:List Str} {k:Nat} {sp:Sp} (F:Fun K x qual st f fd) (S:FnScope N ps (jJl st)) (len:∀vs H Q E,sp vs H Q E->vs.length=ps.length)
  (hbody:∀(cdv:Value) (A:Around) (outer:List Env) (s:Shared) (H:Hp) (vs:List V) (Q:VK) (E:XK),Room k (A.deeper (envOfC qual (jJl st) s.heap.objs.size f cdv))->sp vs H Q E->
   ∃t,PSs (cxOf CX0 P w K mg base N qual (jJl st) f cdv A outer s H E).nox (jKi st) t/\t {nx:=fun _ H'=>Q .non H',rt:=Q} (start N vs) H):FnOk P w K mg base CX0 (k+1) f fd ps sp:=by
 obtain⟨oc,od,kV,doc,pm,an,cdv,ct,osl,rfl,lk,hcd⟩:=F.ex
 refine fn_of lk hcd S len fun A outer s H vs Q E hr hsp=> ?_
 obtain⟨t,h,q⟩:=hbody cdv A outer s H vs Q E hr hsp
 exact⟨t,h.nox,q⟩
theorem Fun.binds {x qual:Str} {st:Stmt} {f:Addr} {fd:FuncData} {ps:List Str} (F:Fun K x qual st f fd)
  (h:∀(kV doc pm:Value) (an:Option Addr) (cdv ct:Value) (us:List Value),us.length=ps.length->bindArgs (PySem.W.fnOf x qual (jQl st) (jKi st) (jJl st) .none kV doc pm an cdv ct) ⟨us,[]⟩=pure (ps.zip us)):Binds K fd ps []:=by
 obtain⟨oc,od,kV,doc,pm,an,cdv,ct,osl,rfl,lk,hcd⟩:=F.ex
 exact .all (h kV doc pm an cdv ct)
theorem kZq {x qual:Str} {st:Stmt} {f:Addr} {oc:Value} {od an:Option Addr} {osl:Array (Option Value)} {kV doc pm cdv ct:Value} (l:K.lookup f=some ⟨oc,od,.func (PySem.W.fnOf x qual (jQl st) (jKi st) (jJl st) .none kV doc pm an cdv ct),osl⟩)
  (c:PySem.W.codeIn K cdv qual=true) (k:PySem.W.keepIn K (.ref f)=true):Fun K x qual st f (PySem.W.fnOf x qual (jQl st) (jKi st) (jJl st) .none kV doc pm an cdv ct):=⟨⟨oc,od,kV,doc,pm,an,cdv,ct,osl,rfl,l,c⟩,k⟩
end
theorem kZk {A:Around} {k:Nat} (hr:Room k A):A.units+20<cLine:=Nat.lt_of_le_of_lt (Nat.add_le_add_left (by decide:20<=64) _) hr.units
section
variable {X:Cx}
end
end L2
set_option Elab.async false
set_option linter.all false
set_option maxRecDepth 100000
set_option maxHeartbeats 5000000
namespace L3
open PySem PySem.Spec PyProof.Rows L2
inductive T where
 | non | bl (b:Bool) | int (i:Int) | str (x:Str) | tup (xs:List T) | scr (xs:List T) | ref (a:Addr) | ty (n:String)
structure Ext (H H':Hp):Prop where
 tup:∀b xs,H b=some (.tup xs)->H' b=some (.tup xs)
 frz:∀b ob u,H b=some (.frz ob u)->H' b=some (.frz ob u)
theorem Ext.refl (H:Hp):Ext H H:=⟨fun _ _ h=>h,fun _ _ _ h=>h⟩
theorem Ext.trans {H H1 H2:Hp} (a:Ext H H1) (b:Ext H1 H2):Ext H H2:=⟨fun c o h=>b.tup c o (a.tup c o h),fun c o u h=>b.frz c o u (a.frz c o u h)⟩
noncomputable def FrL (K:PySem.W.Frag) (H:Hp) (a:Addr) (xs:List V):Prop:=
 (∃ob,H a=some (.frz ob (.lst xs)))\/
  ∃(o:Obj) (its:Array Value) (n:Nat),K.lookup a=some o/\o.cls= .type "list"/\o.dict=none/\o.data= .seq its n/\its.size<=sizeLine/\Vals xs its.toList
theorem FrL.sq {K:PySem.W.Frag} {H:Hp} {a:Addr} {xs:List V} (h:FrL K H a xs):SqL K H a xs:=by
 rcases h with ⟨ob,h⟩ | h
 ·exact .inl (.inr ⟨ob,h⟩)
 ·exact .inr h
theorem FrL.mono {K:PySem.W.Frag} {H H':Hp} {a:Addr} {xs:List V} (e:Ext H H') (h:FrL K H a xs):FrL K H' a xs:=by
 rcases h with ⟨ob,h⟩ | h
 ·exact .inl ⟨ob,e.frz _ _ _ h⟩
 ·exact .inr h
mutual
noncomputable def Rep (K:PySem.W.Frag) (H:Hp):T->V->Prop
 | .non,v=>v= .non
 | .bl b,v=>v= .bl b
 | .int i,v=>v= .int i
 | .str x,v=>v= .str x
 | .ref a,v=>v= .ref a
 | .ty n,v=>v= .ty n
 | .tup xs,v=>∃a vs,v= .ref a/\H a=some (.tup vs)/\Reps K H xs vs
 | .scr xs,v=>∃a vs,v= .ref a/\FrL K H a vs/\Reps K H xs vs
noncomputable def Reps (K:PySem.W.Frag) (H:Hp):List T->List V->Prop
 | [],vs=>vs=[]
 | x::xs,vs=>∃v ws,vs=v::ws/\Rep K H x v/\Reps K H xs ws
end
mutual
theorem Rep.mono {K:PySem.W.Frag} {H H':Hp} (e:Ext H H'):∀(x:T) {v:V},Rep K H x v->Rep K H' x v
 | .non,_,h=>h
 | .bl _,_,h=>h
 | .int _,_,h=>h
 | .str _,_,h=>h
 | .ref _,_,h=>h
 | .ty _,_,h=>h
 | .tup xs,_,⟨a,vs,r1,r2,r3⟩=>⟨a,vs,r1,e.tup _ _ r2,Reps.mono e xs r3⟩
 | .scr xs,_,⟨a,vs,r1,r2,r3⟩=>⟨a,vs,r1,r2.mono e,Reps.mono e xs r3⟩
theorem Reps.mono {K:PySem.W.Frag} {H H':Hp} (e:Ext H H'):∀(xs:List T) {vs:List V},Reps K H xs vs->Reps K H' xs vs
 | [],_,h=>h
 | x::xs,_,⟨v,ws,r1,r2,r3⟩=>⟨v,ws,r1,Rep.mono e x r2,Reps.mono e xs r3⟩
end
section
variable {K:PySem.W.Frag} {H:Hp}
theorem Reps.length:∀ {xs:List T} {vs:List V},Reps K H xs vs->xs.length=vs.length
 | [],_,h=>by cases h;rfl
 | _::_,_,⟨_,_,r1,_,r3⟩=>by subst r1;simp[Reps.length r3]
theorem Reps.get:∀ {xs:List T} {vs:List V} {i:Nat} {x:T},Reps K H xs vs->xs[i]? =some x->∃v,vs[i]? =some v/\Rep K H x v
 | [],_,_,_,_,e=>by simp at e
 | y::ys,_,0,x,⟨v,ws,r1,r2,r3⟩,e=>by subst r1;simp at e;subst e;exact⟨v,rfl,r2⟩
 | y::ys,_,i+1,x,⟨v,ws,r1,r2,r3⟩,e=>by subst r1;simpa using Reps.get r3 (by simpa using e)
theorem Reps.get':∀ {xs:List T} {vs:List V} {i:Nat} {v:V},Reps K H xs vs->vs[i]? =some v->∃x,xs[i]? =some x/\Rep K H x v
 | [],_,_,_,h,e=>by cases h;simp at e
 | y::ys,_,0,x,⟨v,ws,r1,r2,r3⟩,e=>by subst r1;simp at e;subst e;exact⟨y,rfl,r2⟩
 | y::ys,_,i+1,x,⟨v,ws,r1,r2,r3⟩,e=>by subst r1;simpa using Reps.get' r3 (by simpa using e)
theorem Reps.append:∀ {xs ys:List T} {vs ws:List V},Reps K H xs vs->Reps K H ys ws->Reps K H (xs++ys) (vs++ws)
 | [],_,_,_,h,h2=>by cases h;exact h2
 | _::_,_,_,_,⟨v,ws,r1,r2,r3⟩,h2=>by subst r1;exact⟨v,_,rfl,r2,Reps.append r3 h2⟩
theorem Reps.one {x:T} {v:V} (r:Rep K H x v):Reps K H [x] [v]:=⟨v,[],rfl,r,rfl⟩
theorem Reps.set {x:T} {v:V} (r:Rep K H x v):∀ {xs:List T} {vs:List V} (i:Nat),Reps K H xs vs->Reps K H (xs.set i x) (vs.set i v)
 | [],_,_,e=>by cases e;rfl
 | _::_,_,0,⟨_,ws,r1,r2,r3⟩=>by subst r1;exact⟨v,ws,rfl,r,r3⟩
 | _::_,_,i+1,⟨u,ws,r1,r2,r3⟩=>by subst r1;exact⟨u,_,rfl,r2,Reps.set r i r3⟩
theorem Reps.take:∀ {xs:List T} {vs:List V} (n:Nat),Reps K H xs vs->Reps K H (xs.take n) (vs.take n)
 | _,_,0,_=>by simp[Reps]
 | [],_,_+1,h=>by cases h;simp[Reps]
 | _::_,_,n+1,⟨u,ws,r1,r2,r3⟩=>by subst r1;exact⟨u,_,rfl,r2,Reps.take n r3⟩
theorem Reps.drop:∀ {xs:List T} {vs:List V} (n:Nat),Reps K H xs vs->Reps K H (xs.drop n) (vs.drop n)
 | _,_,0,h=>h
 | [],_,_+1,h=>by cases h;simp[Reps]
 | _::_,_,n+1,⟨u,ws,r1,r2,r3⟩=>by subst r1;exact Reps.drop n r3
theorem Reps.reverse:∀ {xs:List T} {vs:List V},Reps K H xs vs->Reps K H xs.reverse vs.reverse
 | [],_,h=>by cases h;simp[Reps]
 | _::_,_,⟨u,ws,r1,r2,r3⟩=>by
  subst r1;rw[List.reverse_cons,List.reverse_cons];exact (Reps.reverse r3).append ⟨u,[],rfl,r2,rfl⟩
theorem Reps.rep {xs:List T} {vs:List V} (r:Reps K H xs vs):∀n:Nat,Reps K H (List.replicate n xs).flatten (List.replicate n vs).flatten
 | 0=>by simp[Reps]
 | n+1=>by simpa[List.replicate_succ] using r.append (Reps.rep r n)
theorem Reps.atI {xs:List T} {vs:List V} {i:Int} {x:T} (r:Reps K H xs vs) (h:atI xs i=some x):∃v,atI vs i=some v/\Rep K H x v:=by
 unfold L2.atI at h ⊢
 rw[<-r.length]
 cases e:ixN xs.length i with
 | none=>rw[e] at h;cases h
 | some j=>rw[e] at h;exact r.get h
end
inductive GO where
 | lst (xs:List T) | dct (kvs:List (TKey×T)) | dck (kvs:List (Key×T)) | fdc (kvs:List (TKey×T)) | ins (cn:Str) (fs:List (Str×T)) | exc (cn:Str)
abbrev Gp:=Addr->Option GO
def gup (G:Gp) (a:Addr) (o:GO):Gp:=fun b=>if b=a then some o else G b
theorem jJe {G:Gp} {a:Addr} {o:GO}:gup G a o a=some o:=by simp[gup]
theorem jJh {G:Gp} {a b:Addr} {o:GO} (h:b≠a):gup G a o b=G b:=by simp[gup,h]
theorem jXv {G:Gp} {a:Addr} {o o':GO}:gup (gup G a o) a o'=gup G a o':=by funext b;by_cases h:b=a<;>simp[gup,h]
def asL:Option GO->Option (List T)
 | some (.lst xs)=>some xs
 | _=>none
def seqT (G:Gp):T->Option (List T)
 | .tup xs=>some xs
 | .scr xs=>some xs
 | .ref a=>asL (G a)
 | _=>none
def PKV {κ:Type} (K:PySem.W.Frag) (H:Hp):List (κ×T)->List (κ×V)->Prop:=Paired fun p q=>p.1=q.1/\Rep K H p.2 q.2
noncomputable def GOk (K:PySem.W.Frag) (H:Hp) (a:Addr):GO->Prop
 | .lst xs=>∃vs,H a=some (.lst vs)/\Reps K H xs vs
 | .dct kvs=>∃ws,H a=some (.dT ws)/\PKV K H kvs ws
 | .dck kvs=>∃ws,H a=some (.dK ws)/\PKV K H kvs ws
 | .fdc kvs=>∃ob ws,H a=some (.frz ob (.dT ws))/\PKV K H kvs ws
 | .ins cn fs=>∃C dx ws,H a=some (.ins C dx ws)/\PySem.W.nsIn K mainGlobals cn=some (some (.ref C))/\PKV K H fs ws
 | .exc cn=>∃ob C u,H a=some (.frz ob u)/\ob.cls= .ref C/\PySem.W.nsIn K mainGlobals cn=some (some (.ref C))
def GRel (K:PySem.W.Frag) (H:Hp) (G:Gp):Prop:=∀a o,G a=some o->GOk K H a o
section
variable {K:PySem.W.Frag} {H H':Hp} {G:Gp} {a:Addr}
theorem PKV.mono {κ:Type} {kvs:List (κ×T)} {ws:List (κ×V)} (e:Ext H H') (h:PKV K H kvs ws):PKV K H' kvs ws:=Paired.mapP h fun _ _ z=>⟨z.1,Rep.mono e _ z.2⟩
theorem GOk.move {o:GO} (h:GOk K H a o) (e:Ext H H') (ha:H' a=H a):GOk K H' a o:=by
 cases o with
 | lst xs=>obtain⟨vs,h1,h2⟩:=h;exact⟨vs,ha.trans h1,Reps.mono e _ h2⟩
 | dct kvs=>obtain⟨vs,h1,h2⟩:=h;exact⟨vs,ha.trans h1,h2.mono e⟩
 | dck kvs=>obtain⟨vs,h1,h2⟩:=h;exact⟨vs,ha.trans h1,h2.mono e⟩
 | fdc kvs=>obtain⟨ob,vs,h1,h2⟩:=h;exact⟨ob,vs,ha.trans h1,h2.mono e⟩
 | ins cn fs=>obtain⟨C,dx,ws,h1,h2,h3⟩:=h;exact⟨C,dx,ws,ha.trans h1,h2,h3.mono e⟩
 | exc cn=>obtain⟨ob,C,u,h1,h2,h3⟩:=h;exact⟨ob,C,u,ha.trans h1,h2,h3⟩
theorem GOk.some {o:GO} (h:GOk K H a o):H a≠none:=by
 cases o with
 | lst xs=>obtain⟨vs,h1,h2⟩:=h;rw[h1];simp
 | dct kvs=>obtain⟨vs,h1,h2⟩:=h;rw[h1];simp
 | dck kvs=>obtain⟨vs,h1,h2⟩:=h;rw[h1];simp
 | fdc kvs=>obtain⟨ob,vs,h1,h2⟩:=h;rw[h1];simp
 | ins cn fs=>obtain⟨C,dx,ws,h1,h2,h3⟩:=h;rw[h1];simp
 | exc cn=>obtain⟨ob,C,u,h1,h2,h3⟩:=h;rw[h1];simp
theorem GRel.fresh (g:GRel K H G) (h:H a=none):G a=none:=by
 cases e:G a with
 | none=>rfl
 | some o=>exact absurd h (g a o e).some
def Soft (o:Option HO):Prop:=o=none\/(∃xs,o=some (.lst xs))\/(∃kvs,o=some (.dK kvs))\/(∃kvs,o=some (.dT kvs))\/∃C dx fs,o=some (.ins C dx fs)
theorem Ext.upd {o:HO} (h:Soft (H a)):Ext H (L2.upd H a o):=by
 refine⟨fun b xs e=> ?_,fun b ob u e=> ?_⟩
 ·rw[jJz];exact e
  rintro rfl;rw[e] at h;rcases h with h | ⟨_,h⟩ | ⟨_,h⟩ | ⟨_,h⟩ | ⟨_,_,_,h⟩<;>cases h
 ·rw[jJz];exact e
  rintro rfl;rw[e] at h;rcases h with h | ⟨_,h⟩ | ⟨_,h⟩ | ⟨_,h⟩ | ⟨_,_,_,h⟩<;>cases h
theorem GRel.upd {o:HO} {go:GO} (g:GRel K H G) (h:Soft (H a)) (n:GOk K (L2.upd H a o) a go):GRel K (L2.upd H a o) (gup G a go):=by
 intro b u e
 by_cases hb:b=a
 ·subst hb;rw[jJe] at e;cases e;exact n
 ·rw[jJh hb] at e;exact (g b u e).move (Ext.upd h) (jJz hb)
theorem Soft.none (h:H a=none):Soft (H a):= .inl h
theorem Soft.lst {xs:List V} (h:H a=some (.lst xs)):Soft (H a):= .inr (.inl ⟨xs,h⟩)
theorem Soft.dT {xs:List (TKey×V)} (h:H a=some (.dT xs)):Soft (H a):= .inr (.inr (.inr (.inl ⟨xs,h⟩)))
theorem Soft.dK {xs:List (Key×V)} (h:H a=some (.dK xs)):Soft (H a):= .inr (.inr (.inl ⟨xs,h⟩))
theorem Soft.ins {C dx:Addr} {fs:List (Str×V)} (h:H a=some (.ins C dx fs)):Soft (H a):= .inr (.inr (.inr (.inr ⟨C,dx,fs,h⟩)))
theorem GRel.tupNew {vs:List V} (g:GRel K H G) (h:H a=Option.none):GRel K (L2.upd H a (.tup vs)) G:=by
 intro b u e
 have hb:b≠a:=by rintro rfl;exact (g b u e).some h
 exact (g b u e).move (Ext.upd (.none h)) (jJz hb)
theorem Rep.tupNew {xs:List T} {vs:List V} (r:Reps K H xs vs) (h:H a=Option.none):Rep K (L2.upd H a (.tup vs)) (.tup xs) (.ref a):=
 ⟨a,vs,rfl,jJ8,Reps.mono (Ext.upd (.none h)) _ r⟩
theorem GRel.lstNew {xs:List T} {vs:List V} (g:GRel K H G) (r:Reps K H xs vs) (h:Soft (H a)):GRel K (L2.upd H a (.lst vs)) (gup G a (.lst xs)):=
 g.upd h ⟨vs,jJ8,Reps.mono (Ext.upd h) _ r⟩
theorem GRel.lst {xs:List T} (g:GRel K H G) (h:G a=some (.lst xs)):∃vs,H a=some (.lst vs)/\Reps K H xs vs:=g a _ h
end
abbrev St3:=List (Option T)
def SRel (K:PySem.W.Frag) (H:Hp) (σ:L2.St) (τ:St3):Prop:=σ.length=τ.length/\∀(i:Nat) (t:T),τ[i]? =some (some t)->∃v,σ[i]? =some (some v)/\Rep K H t v
theorem SRel.mono {K:PySem.W.Frag} {H H':Hp} {σ:L2.St} {τ:St3} (e:Ext H H') (h:SRel K H σ τ):SRel K H' σ τ:=
 ⟨h.1,fun i t q=>let ⟨v,h1,h2⟩:=h.2 i t q;⟨v,h1,Rep.mono e _ h2⟩⟩
theorem SRel.set {K:PySem.W.Frag} {H:Hp} {σ:L2.St} {τ:St3} {t:T} {v:V} (h:SRel K H σ τ) (i:Nat) (r:Rep K H t v):SRel K H (σ.set i (some v)) (τ.set i (some t)):=by
 refine⟨by simp[h.1],fun j u q=> ?_⟩
 by_cases hj:i=j
 ·subst hj
  have hl:i<τ.length:=by
   rcases Nat.lt_or_ge i τ.length with z | z
   ·exact z
   ·rw[List.getElem?_eq_none (by simpa using z)] at q;cases q
  rw[List.getElem?_set_self hl] at q
  cases q
  exact⟨v,by rw[List.getElem?_set_self (by rw[h.1];exact hl)],r⟩
 ·rw[List.getElem?_set_ne hj] at q ⊢
  exact h.2 j u q
def Inv3 (X:Cx) (pins:List (Addr×Obj)) (τ:St3) (G:Gp) (H:Hp) (s:Shared):Prop:=∃ σ,Inv X pins σ H s/\SRel X.K H σ τ/\GRel X.K H G
abbrev VK3:=T->Gp->Prop
abbrev TE3:=St3->Gp->VK3->Prop
abbrev TT3:=St3->Gp->(Bool->Gp->Prop)->Prop
abbrev TA3:=St3->Gp->(List T->Gp->Prop)->Prop
structure Ends3 where
 nx:St3->Gp->Prop
 rt:VK3
 bk:St3->Gp->Prop:=fun _ _=>False
 ct:St3->Gp->Prop:=fun _ _=>False
abbrev TS3:=Ends3->St3->Gp->Prop
def RU (K:PySem.W.Frag) (H:Hp) (t:T) (u:Value):Prop:=∃v,Rep K H t v/\RelV v u
def RUs (K:PySem.W.Frag) (H:Hp) (ts:List T) (us:List Value):Prop:=∃vs,Reps K H ts vs/\Vals vs us
theorem RU.mono {K:PySem.W.Frag} {H H':Hp} {t:T} {u:Value} (e:Ext H H') (h:RU K H t u):RU K H' t u:=let ⟨v,h1,h2⟩:=h;⟨v,Rep.mono e _ h1,h2⟩
def EP3 (X:Cx) (pins:List (Addr×Obj)) (τ:St3) (H:Hp) (Q:VK3) (u:Value) (s':Shared):Prop:=∃t G' H',Ext H H'/\Inv3 X pins τ G' H' s'/\RU X.K H' t u/\Q t G'
def TP3 (X:Cx) (pins:List (Addr×Obj)) (τ:St3) (H:Hp) (Q:Bool->Gp->Prop) (b:Bool) (s':Shared):Prop:=∃G' H',Ext H H'/\Inv3 X pins τ G' H' s'/\Q b G'
def AP3 (X:Cx) (pins:List (Addr×Obj)) (τ:St3) (H:Hp) (Q:List T->Gp->Prop) (us:List Value) (s':Shared):Prop:=∃ts G' H',Ext H H'/\Inv3 X pins τ G' H' s'/\RUs X.K H' ts us/\Q ts G'
noncomputable def SP3 (X:Cx) (pins:List (Addr×Obj)) (H:Hp) (D:Ends3) (f:Flow) (s':Shared):Prop:=
 match f with
 | .next=>∃ τ' G' H',Ext H H'/\Inv3 X pins τ' G' H' s'/\D.nx τ' G'
 | .brk=>∃ τ' G' H',Ext H H'/\Inv3 X pins τ' G' H' s'/\D.bk τ' G'
 | .cont=>∃ τ' G' H',Ext H H'/\Inv3 X pins τ' G' H' s'/\D.ct τ' G'
 | .ret u=>∃t τ' G' H',Ext H H'/\Inv3 X pins τ' G' H' s'/\RU X.K H' t u/\D.rt t G'
noncomputable def PE3 (X:Cx) (e:Expr) (t:TE3):Prop:=∀(pins:List (Addr×Obj)) (s:Shared) (τ:St3) (G:Gp) (H:Hp) (Q:VK3),Inv3 X pins τ G H s->t τ G Q->wpAny (model X.prog X.w) X.A (eval e X.env) (EP3 X pins τ H Q) X.xe s
noncomputable def PT3 (X:Cx) (e:Expr) (t:TT3):Prop:=∀(pins:List (Addr×Obj)) (s:Shared) (τ:St3) (G:Gp) (H:Hp) (Q:Bool->Gp->Prop),Inv3 X pins τ G H s->t τ G Q->wpAny (model X.prog X.w) X.A (isTrue e X.env (eval e X.env)) (TP3 X pins τ H Q) X.xe s
noncomputable def PW3 (X:Cx) (e:Expr) (t:TT3):Prop:=∀(whole:Sem Value) (pins:List (Addr×Obj)) (s:Shared) (τ:St3) (G:Gp) (H:Hp) (Q:Bool->Gp->Prop),Inv3 X pins τ G H s->t τ G Q->wpAny (model X.prog X.w) X.A (isTrue e X.env whole) (TP3 X pins τ H Q) X.xe s
theorem PW3.pt {X:Cx} {e:Expr} {t:TT3} (h:PW3 X e t):PT3 X e t:=h _
noncomputable def PA3 (X:Cx) (es:List Expr) (t:TA3):Prop:=∀(pos:Pos) (pins:List (Addr×Obj)) (s:Shared) (τ:St3) (G:Gp) (H:Hp) (Q:List T->Gp->Prop),Inv3 X pins τ G H s->t τ G Q->wpAny (model X.prog X.w) X.A (spliced (backTo pos (starEach es X.env))) (AP3 X pins τ H Q) X.xe s
noncomputable def PS3 (X:Cx) (st:Stmt) (t:TS3):Prop:=∀(pins:List (Addr×Obj)) (s:Shared) (τ:St3) (G:Gp) (H:Hp) (D:Ends3),Inv3 X pins τ G H s->t D τ G->wpAny (model X.prog X.w) X.A (exec st X.env) (SP3 X pins H D) X.xe s
noncomputable def PSs3 (X:Cx) (st:List Stmt) (t:TS3):Prop:=∀(pins:List (Addr×Obj)) (s:Shared) (τ:St3) (G:Gp) (H:Hp) (D:Ends3),Inv3 X pins τ G H s->t D τ G->wpAny (model X.prog X.w) X.A (execs st X.env) (SP3 X pins H D) X.xe s
section
variable {X:Cx} {pins:List (Addr×Obj)} {τ:St3} {G:Gp} {H H1:Hp} {s:Shared} {C:Prop}
theorem EP3.el {Q:VK3} {u:Value} (h:EP3 X pins τ H Q u s) (k:∀t G' H',Ext H H'->Inv3 X pins τ G' H' s->RU X.K H' t u->Q t G'->C):C:=let ⟨t,G',H',a,b,c,d⟩:=h;k t G' H' a b c d
theorem AP3.el {Q:List T->Gp->Prop} {u:List Value} (h:AP3 X pins τ H Q u s) (k:∀t G' H',Ext H H'->Inv3 X pins τ G' H' s->RUs X.K H' t u->Q t G'->C):C:=let ⟨t,G',H',a,b,c,d⟩:=h;k t G' H' a b c d
theorem TP3.el {Q:Bool->Gp->Prop} {u:Bool} (h:TP3 X pins τ H Q u s) (k:∀G' H',Ext H H'->Inv3 X pins τ G' H' s->Q u G'->C):C:=let ⟨G',H',a,b,c⟩:=h;k G' H' a b c
theorem Inv3.el (h:Inv3 X pins τ G H s) (k:∀ σ,Inv X pins σ H s->SRel X.K H σ τ->GRel X.K H G->C):C:=let ⟨σ,a,b,c⟩:=h;k σ a b c
theorem RU.el {K:PySem.W.Frag} {t:T} {u:Value} (h:RU K H t u) (k:∀v,Rep K H t v->RelV v u->C):C:=let ⟨v,a,b⟩:=h;k v a b
theorem RUs.el {K:PySem.W.Frag} {t:List T} {u:List Value} (h:RUs K H t u) (k:∀v,Reps K H t v->Vals v u->C):C:=let ⟨v,a,b⟩:=h;k v a b
end
section
variable {X:Cx} {pins:List (Addr×Obj)} {τ:St3} {G:Gp} {H H1:Hp} {s:Shared}
theorem EP3.ext {Q:VK3} {u:Value} (e:Ext H H1) (h:EP3 X pins τ H1 Q u s):EP3 X pins τ H Q u s:=let ⟨t,G',H',a,b⟩:=h;⟨t,G',H',e.trans a,b⟩
theorem TP3.ext {Q:Bool->Gp->Prop} {u:Bool} (e:Ext H H1) (h:TP3 X pins τ H1 Q u s):TP3 X pins τ H Q u s:=let ⟨G',H',a,b⟩:=h;⟨G',H',e.trans a,b⟩
theorem SP3.ext {D:Ends3} {f:Flow} (e:Ext H H1) (h:SP3 X pins H1 D f s):SP3 X pins H D f s:=by
 cases f with
 | next=>obtain⟨τ',G',H',a,b⟩:=h;exact⟨τ',G',H',e.trans a,b⟩
 | brk=>obtain⟨τ',G',H',a,b⟩:=h;exact⟨τ',G',H',e.trans a,b⟩
 | cont=>obtain⟨τ',G',H',a,b⟩:=h;exact⟨τ',G',H',e.trans a,b⟩
 | ret u=>obtain⟨t,τ',G',H',a,b⟩:=h;exact⟨t,τ',G',H',e.trans a,b⟩
theorem Inv3.tok (I:Inv3 X pins τ G H s) (t:Nat):Inv3 X pins τ G H {s with toks:=t}:=let ⟨σ,I,a,b⟩:=I;⟨σ,I.tok t,a,b⟩
theorem bin3 {a b:Expr} {ta tb:TE3} (ha:PE3 X a ta) (hb:PE3 X b tb) {R:T->T->Gp->Prop} (I:Inv3 X pins τ G H s) (h:ta τ G fun x G1=>tb τ G1 fun y G2=>R x y G2)
  {α:Type} {Q:α->Shared->Prop} {f:Value->Value->Sem α}
  (hf:∀v u s2 x y G2 H2,Ext H H2->Inv3 X pins τ G2 H2 s2->RU X.K H2 x v->RU X.K H2 y u->R x y G2->wpAny (model X.prog X.w) X.A (f v u) Q X.xe s2):
  wpAny (model X.prog X.w) X.A (eval a X.env) (fun v s₁=>wpAny (model X.prog X.w) X.A (eval b X.env) (fun u s₂=>wpAny (model X.prog X.w) X.A (f v u) Q X.xe s₂) X.xe s₁) X.xe s:=by
 refine thn (ha pins s τ G H _ I h) fun v s1 w_=>w_.el fun x G1 H1 e1 I1 r1 q1=> ?_
 refine thn (hb pins s1 τ G1 H1 _ I1 q1) fun u s2 w_=>w_.el fun y G2 H2 e2 I2 r2 q2=> ?_
 exact hf v u s2 x y G2 H2 (e1.trans e2) I2 (r1.mono e2) r2 q2
def up (K:PySem.W.Frag) (H:Hp) (Q:VK3):VK:=fun v H'=>∃t G',Ext H H'/\GRel K H' G'/\Rep K H' t v/\Q t G'
theorem jVa {σ:L2.St} {Q:VK3} {u:Value} (hs:SRel X.K H σ τ) (h:EP X pins σ (up X.K H Q) u s):EP3 X pins τ H Q u s:=
 let ⟨v,H',I',r',t,G',e,g',rt,q⟩:=h
 ⟨t,G',H',e,⟨σ,I',hs.mono e,g'⟩,⟨v,rt,r'⟩,q⟩
end
section
variable {X:Cx} {pos:Pos}
def tVar (i:Nat):TE3:=fun τ G Q=>∃t,τ[i]? =some (some t)/\Q t G
def tC (t:T):TE3:=fun _ G Q=>Q t G
theorem jJc (i:Nat) {x:Str} (hN:X.N[i]? =some x:=by rfl) (hv:Vis X.env.scope x:=by first | exact Or.inl rfl | exact Or.inr (Or.inl rfl) | exact Or.inr (Or.inr rfl))
  (hd:(x == ("__debug__":Str))=false:=by decide) (hcd:(x == ("__classdict__":Str))=false:=by decide):PE3 X (.Name x pos) (tVar i):=by
 rintro pins s τ G H Q ⟨σ,I,hs,hg⟩ ⟨t,e,q⟩
 obtain⟨v,ev,rv⟩:=hs.2 i t e
 exact thn (pe_var hN hv hd hcd pins s σ H (up X.K H Q) I ⟨v,ev,t,G,.refl H,hg,rv,q⟩) fun u s' h=>jVa hs h
theorem jJj {i j}:PE3 X (.Constant (.int i) j pos) (tC (.int i)):=fun pins s τ G H Q ⟨σ,I,hs,hg⟩ q=>
 thn (pe_int pins s σ H (up X.K H Q) I ⟨.int i,G,.refl H,hg,rfl,q⟩) fun u s' h=>jVa hs h
theorem e_bl {b j}:PE3 X (.Constant (.bool b) j pos) (tC (.bl b)):=fun pins s τ G H Q ⟨σ,I,hs,hg⟩ q=>
 thn (pe_bl pins s σ H (up X.K H Q) I ⟨.bl b,G,.refl H,hg,rfl,q⟩) fun u s' h=>jVa hs h
theorem e_non {j}:PE3 X (.Constant .none j pos) (tC .non):=fun pins s τ G H Q ⟨σ,I,hs,hg⟩ q=>
 thn (pe_non pins s σ H (up X.K H Q) I ⟨.non,G,.refl H,hg,rfl,q⟩) fun u s' h=>jVa hs h
theorem jVz {x j}:PE3 X (.Constant (.str x) j pos) (tC (.str x)):=fun pins s τ G H Q ⟨σ,I,hs,hg⟩ q=>
 thn (pe_str pins s σ H (up X.K H Q) I ⟨.str x,G,.refl H,hg,rfl,q⟩) fun u s' h=>jVa hs h
end
abbrev R3:=T->T->Gp->VK3->Prop
noncomputable def Op3 (X:Cx) (f:Value->Value->Sem Value) (r:R3):Prop:=
 ∀(pins:List (Addr×Obj)) (s:Shared) (τ:St3) (G:Gp) (H:Hp) (x y:T) (v u:Value) (Q:VK3),Inv3 X pins τ G H s->RU X.K H x v->RU X.K H y u->r x y G Q->wpAny (model X.prog X.w) X.A (f v u) (EP3 X pins τ H Q) X.xe s
noncomputable def Call3 (X:Cx) (f:Value) (r:List T->Gp->VK3->Prop):Prop:=
 ∀(pins:List (Addr×Obj)) (s:Shared) (τ:St3) (G:Gp) (H:Hp) (xs:List T) (us:List Value) (Q:VK3),Inv3 X pins τ G H s->RUs X.K H xs us->r xs G Q->wpAny (model X.prog X.w) X.A (call f us) (EP3 X pins τ H Q) X.xe s
noncomputable def Mt3 (X:Cx) (id:String) (r:T->List T->Gp->VK3->Prop):Prop:=
 ∀(pins:List (Addr×Obj)) (s:Shared) (τ:St3) (G:Gp) (H:Hp) (x:T) (xs:List T) (v:Value) (us:List Value) (Q:VK3),Inv3 X pins τ G H s->RU X.K H x v->RUs X.K H xs us->r x xs G Q->
  wpAny (model X.prog X.w) X.A (call (.builtin id) (v::us)) (EP3 X pins τ H Q) X.xe s
noncomputable def Ix3 (X:Cx) (r:R3):Prop:=
 ∀(value slice:Expr) (pins:List (Addr×Obj)) (s:Shared) (τ:St3) (G:Gp) (H:Hp) (x y:T) (v u:Value) (Q:VK3),Inv3 X pins τ G H s->RU X.K H x v->RU X.K H y u->r x y G Q->
  subscripted slice false v u=operate [v,u] (getItem v u)->wpAny (model X.prog X.w) X.A (subscriptTail value slice v u) (EP3 X pins τ H Q) X.xe s
noncomputable def Set3 (X:Cx) (r:T->T->T->Gp->(Gp->Prop)->Prop):Prop:=
 ∀(pins:List (Addr×Obj)) (s:Shared) (τ:St3) (G:Gp) (H:Hp) (o i v:T) (ov iv u:Value) (Q:Gp->Prop),Inv3 X pins τ G H s->RU X.K H o ov->RU X.K H i iv->RU X.K H v u->r o i v G Q->
  wpAny (model X.prog X.w) X.A (setItem ov iv u) (fun _ s'=>∃G' H',Ext H H'/\Inv3 X pins τ G' H' s'/\Q G') X.xe s
section
variable {X:Cx}
theorem Op3.of {f:Value->Value->Sem Value} {r:R2} {r3:R3} (h:OpR X f r)
  (hr:∀H G x y a b Q,GRel X.K H G->Rep X.K H x a->Rep X.K H y b->r3 x y G Q->r a b H (up X.K H Q)):Op3 X f r3:=by
 rintro pins s τ G H x y v u Q ⟨σ,I,hs,hg⟩ ⟨a,ra,rv⟩ ⟨b,rb,ru⟩ q
 exact thn (h pins s σ H a b v u _ I rv ru (hr H G x y a b Q hg ra rb q)) fun u s' h=>jVa hs h
theorem Call3.of {f:Value} {r:List V->Hp->VK->Prop} {r3:List T->Gp->VK3->Prop} (h:kQo X f r)
  (hr:∀H G xs as Q,GRel X.K H G->Reps X.K H xs as->r3 xs G Q->r as H (up X.K H Q)):Call3 X f r3:=by
 rintro pins s τ G H xs us Q ⟨σ,I,hs,hg⟩ ⟨as,ra,rv⟩ q
 exact thn (h pins s σ H as us _ I rv (hr H G xs as Q hg ra q)) fun u s' h=>jVa hs h
theorem Mt3.of {id:String} {r:V->List V->Hp->VK->Prop} {r3:T->List T->Gp->VK3->Prop} (h:MtR X id r)
  (hr:∀H G x xs a as Q,GRel X.K H G->Rep X.K H x a->Reps X.K H xs as->r3 x xs G Q->r a as H (up X.K H Q)):Mt3 X id r3:=by
 rintro pins s τ G H x xs v us Q ⟨σ,I,hs,hg⟩ ⟨a,ra,rv⟩ ⟨as,ras,rvs⟩ q
 exact thn (h pins s σ H a as v us _ I rv rvs (hr H G x xs a as Q hg ra ras q)) fun u s' h=>jVa hs h
theorem Ix3.of {r:R2} {r3:R3} (h:IxR X r)
  (hr:∀H G x y a b Q,GRel X.K H G->Rep X.K H x a->Rep X.K H y b->r3 x y G Q->r a b H (up X.K H Q)):Ix3 X r3:=by
 rintro value slice pins s τ G H x y v u Q ⟨σ,I,hs,hg⟩ ⟨a,ra,rv⟩ ⟨b,rb,ru⟩ q hh
 exact thn (h value slice pins s σ H a b v u _ I rv ru (hr H G x y a b Q hg ra rb q) hh) fun u s' h=>jVa hs h
theorem Set3.of {t:TSet} {r3:T->T->T->Gp->(Gp->Prop)->Prop} (h:PSet X t)
  (hr:∀H G o i v a b c Q,GRel X.K H G->Rep X.K H o a->Rep X.K H i b->Rep X.K H v c->r3 o i v G Q->t a b c H (fun H'=>∃G',Ext H H'/\GRel X.K H' G'/\Q G')):Set3 X r3:=by
 rintro pins s τ G H o i v ov iv u Q ⟨σ,I,hs,hg⟩ ⟨a,ra,rv⟩ ⟨b,rb,ru⟩ ⟨c,rc,rw'⟩ q
 exact thn (h pins s σ H a b c ov iv u _ I rv ru rw' (hr H G o i v a b c Q hg ra rb rc q)) fun _ s' ⟨H',I',G',e,g',q'⟩=>⟨G',H',e,⟨σ,I',hs.mono e,g'⟩,q'⟩
theorem Op3.or {f:Value->Value->Sem Value} {r r':R3} (h:Op3 X f r) (h':Op3 X f r'):Op3 X f (fun x y G Q=>r x y G Q\/r' x y G Q):=by
 intro pins s τ G H x y v u Q I rx ry q
 rcases q with q | q
 ·exact h pins s τ G H x y v u Q I rx ry q
 ·exact h' pins s τ G H x y v u Q I rx ry q
def rI (C:Int->Int->Prop) (g:Int->Int->T):R3:=fun x y G Q=>∃i j,x= .int i/\y= .int j/\C i j/\Q (g i j) G
def rI0 (g:Int->Int->T):R3:=fun x y G Q=>∃i j,x= .int i/\y= .int j/\Q (g i j) G
theorem o_I {f:Value->Value->Sem Value} {C:Int->Int->Prop} {g:Int->Int->V} {g':Int->Int->T} (h:OpR X f (L2.rI C g)) (hg':∀K H i j,Rep K H (g' i j) (g i j)):Op3 X f (rI C g'):=
 Op3.of h fun H G x y a b Q hg ra rb ⟨i,j,ex,ey,c,q⟩=>by
  subst ex;subst ey
  cases (show a= .int i from ra);cases (show b= .int j from rb)
  exact⟨i,j,rfl,rfl,c,g' i j,G,.refl H,hg,hg' _ _ i j,q⟩
theorem o_I0 {f:Value->Value->Sem Value} {g:Int->Int->V} {g':Int->Int->T} (h:OpR X f (L2.rI0 g)) (hg':∀K H i j,Rep K H (g' i j) (g i j)):Op3 X f (rI0 g'):=
 Op3.of h fun H G x y a b Q hg ra rb ⟨i,j,ex,ey,q⟩=>by
  subst ex;subst ey
  cases (show a= .int i from ra);cases (show b= .int j from rb)
  exact⟨i,j,rfl,rfl,g' i j,G,.refl H,hg,hg' _ _ i j,q⟩
theorem o_add:Op3 X (binaryOp .Add) (rI0 fun i j=> .int (i+j)):=o_I0 op_add fun _ _ _ _=>rfl
theorem kV9:Op3 X (binaryOp .Sub) (rI0 fun i j=> .int (i-j)):=o_I0 op_sub fun _ _ _ _=>rfl
theorem o_mul:Op3 X (binaryOp .Mult) (rI CMul fun i j=> .int (i*j)):=o_I op_mul fun _ _ _ _=>rfl
theorem kVb:Op3 X (binaryOp .FloorDiv) (rI CDiv fun i j=> .int (i / j)):=o_I qUz fun _ _ _ _=>rfl
theorem jZ4:Op3 X (binaryOp .Mod) (rI (fun _ j=>0<j) fun i j=> .int (i%j)):=o_I op_mod fun _ _ _ _=>rfl
theorem o_pow:Op3 X (binaryOp .Pow) (rI CPow fun i j=> .int (i^j.toNat)):=o_I op_pow fun _ _ _ _=>rfl
theorem o_lt:Op3 X (compareOp .Lt) (rI0 fun i j=> .bl (decide (i<j))):=o_I0 op_lt fun _ _ _ _=>rfl
theorem o_le:Op3 X (compareOp .LtE) (rI0 fun i j=> .bl (decide (i<=j))):=o_I0 op_le fun _ _ _ _=>rfl
theorem o_gt:Op3 X (compareOp .Gt) (rI0 fun i j=> .bl (decide (j<i))):=o_I0 op_gt fun _ _ _ _=>rfl
theorem o_ge:Op3 X (compareOp .GtE) (rI0 fun i j=> .bl (decide (j<=i))):=o_I0 op_ge fun _ _ _ _=>rfl
def qVl:T->Bool
 | .non=>true
 | _=>false
end
def tOp (r:R3) (ta tb:TE3):TE3:=fun τ G Q=>ta τ G fun x G1=>tb τ G1 fun y G2=>r x y G2 Q
def tUn (r:T->Gp->VK3->Prop) (ta:TE3):TE3:=fun τ G Q=>ta τ G fun x G1=>r x G1 Q
def jJw (t:TE3):TT3:=fun τ G Q=>t τ G fun x G1=>∃c,x= .bl c/\Q c G1
def tAnd (t u:TT3):TT3:=fun τ G Q=>t τ G fun c G1=>if c=true then u τ G1 Q else Q false G1
def tOr (t u:TT3):TT3:=fun τ G Q=>t τ G fun c G1=>if c=true then Q true G1 else u τ G1 Q
def tNot (t:TT3):TT3:=fun τ G Q=>t τ G fun c G1=>Q (!c) G1
def kJo (ta tb:TE3):TE3:=fun τ G Q=>ta τ G fun x G1=>∃c,x= .bl c/\if c=true then tb τ G1 Q else Q (.bl false) G1
def tOrV (ta tb:TE3):TE3:=fun τ G Q=>ta τ G fun x G1=>∃c,x= .bl c/\if c=true then Q (.bl true) G1 else tb τ G1 Q
def qUk (ta:TE3):TE3:=fun τ G Q=>ta τ G fun x G1=>∃c,x= .bl c/\Q (.bl (!c)) G1
def tIf (t:TT3) (ta tb:TE3):TE3:=fun τ G Q=>t τ G fun c G1=>if c=true then ta τ G1 Q else tb τ G1 Q
noncomputable def kX4 (r r':R3) (ta tb tc:TE3):TE3:=fun τ G Q=>ta τ G fun x G1=>tb τ G1 fun y G2=>r x y G2 fun z G3=>∃k,z= .bl k/\if k=true then tc τ G3 (fun w G4=>r' y w G4 Q) else Q (.bl false) G3
def tNil:TA3:=fun _ G Q=>Q [] G
def jJb (ta:TE3) (tr:TA3):TA3:=fun τ G Q=>ta τ G fun x G1=>tr τ G1 fun xs G2=>Q (x::xs) G2
def tTup (t:TA3):TE3:=fun τ G Q=>t τ G fun xs G1=>xs.length<=sizeLine/\Q (.tup xs) G1
def tLst (t:TA3):TE3:=fun τ G Q=>t τ G fun xs G1=>xs.length<=sizeLine/\∀p,G1 p=none->Q (.ref p) (gup G1 p (.lst xs))
def tCB (r:List T->Gp->VK3->Prop) (t:TA3):TE3:=fun τ G Q=>t τ G fun xs G1=>r xs G1 Q
section
variable {X:Cx} {a b c:Expr} {ta tb tc:TE3} {tA tB:TT3} {pos:Pos} {rest es:List Expr} {t:TA3}
theorem e_op {op:Operator} {r:R3} (ho:Op3 X (binaryOp op) r) (ha:PE3 X a ta) (hb:PE3 X b tb):PE3 X (.BinOp a op b pos) (tOp r ta tb):=by
 intro pins s τ G H Q I h
 exact wpAny_BinOp (bin3 ha hb I h fun v u s2 x y G2 H2 e I2 rx ry q=>thn (ho pins s2 τ G2 H2 x y v u Q I2 rx ry q) fun _ _ z=>z.ext e)
theorem kZ6 {op:CmpOp} {r:R3} (ho:Op3 X (compareOp op) r) (ha:PE3 X a ta) (hb:PE3 X b tb) (hm:behindInMarks op b=false):PE3 X (.Compare a [op] [b] pos) (tOp r ta tb):=by
 intro pins s τ G H Q I h
 exact wpAny_Compare1 (bin3 ha hb I h fun v u s2 x y G2 H2 e I2 rx ry q=>thn (ho pins s2 τ G2 H2 x y v u Q I2 rx ry q) fun _ _ z=>z.ext e) hm
theorem jKz {op:CmpOp} {r:R3} (ho:Op3 X (compareOp op) r) (ha:PE3 X a ta) (hb:PE3 X b tb) (hm:behindInMarks op b=false):PT3 X (.Compare a [op] [b] pos) (jJw (tOp r ta tb)):=by
 intro pins s τ G H Q I h
 refine wpAny_isTrue_Compare1 (bin3 ha hb I h fun v u s2 x y G2 H2 e I2 rx ry q=>thn (ho pins s2 τ G2 H2 x y v u _ I2 rx ry q) fun w' s3 w_=>w_.el fun z G3 H3 e3 I3 r3 ⟨k,ez,q3⟩=> ?_) hm
 subst ez
 obtain⟨v',rv',ru'⟩:=r3
 cases (show v'= .bl k from rv');cases ru'
 exact wpAny_truthy_bool ⟨G3,H3,e.trans e3,I3,q3⟩
theorem jX1 {e:Expr} {t:TE3} (h:PE3 X e t) (he:∀whole,isTrue e X.env whole=(do let v <-whole;standAt e.pos;holding [v] (truthy v)):=by intro _;rfl):PT3 X e (jJw t):=by
 intro pins s τ G H Q I hw
 refine isTrue_plain (thn (h pins s τ G H _ I hw) fun v s1 w_=>w_.el fun x G1 H1 e1 I1 r1 ⟨k,ez,q1⟩=> ?_) (he _)
 subst ez
 obtain⟨v',rv',ru'⟩:=r1
 cases (show v'= .bl k from rv');cases ru'
 exact wpAny_truthy_bool ⟨G1,H1,e1,I1,q1⟩
def tTru (r:T->Gp->(Bool->Gp->Prop)->Prop) (t:TE3):TT3:=fun τ G Q=>t τ G fun x G1=>r x G1 Q
theorem kUr (ha:PT3 X a tA):PW3 X (.BoolOp .And [a] pos) tA:=by
 intro wh pins s τ G H Q I h
 refine isTrue_and (thn (ha pins s τ G H Q I h) fun c s1 e=> ?_)
 cases c with
 | true=>exact isTrue_and_nil e
 | false=>exact e
theorem qUh (ha:PT3 X a tA):PW3 X (.BoolOp .Or [a] pos) tA:=by
 intro wh pins s τ G H Q I h
 refine isTrue_or (thn (ha pins s τ G H Q I h) fun c s1 e=> ?_)
 cases c with
 | false=>exact isTrue_or_nil e
 | true=>exact e
theorem kXt (ha:PT3 X a tA) (hb:PW3 X (.BoolOp .And (b::rest) pos) tB):PW3 X (.BoolOp .And (a::b::rest) pos) (tAnd tA tB):=by
 intro wh pins s τ G H Q I h
 refine isTrue_and (thn (ha pins s τ G H _ I h) fun c s1 w_=>w_.el fun G1 H1 e1 I1 q1=> ?_)
 cases c with
 | true=>exact thn (hb wh pins s1 τ G1 H1 Q I1 q1) fun _ _ z=>z.ext e1
 | false=>exact⟨G1,H1,e1,I1,q1⟩
theorem w_or (ha:PT3 X a tA) (hb:PW3 X (.BoolOp .Or (b::rest) pos) tB):PW3 X (.BoolOp .Or (a::b::rest) pos) (tOr tA tB):=by
 intro wh pins s τ G H Q I h
 refine isTrue_or (thn (ha pins s τ G H _ I h) fun c s1 w_=>w_.el fun G1 H1 e1 I1 q1=> ?_)
 cases c with
 | true=>exact⟨G1,H1,e1,I1,q1⟩
 | false=>exact thn (hb wh pins s1 τ G1 H1 Q I1 q1) fun _ _ z=>z.ext e1
theorem jZv (ha:PT3 X a tA):PT3 X (.UnaryOp .Not a pos) (tNot tA):=by
 intro pins s τ G H Q I h
 exact isTrue_not (thn (ha pins s τ G H (fun c G1=>Q (!c) G1) I h) fun c s1 w_=>w_.el fun G1 H1 e1 I1 q1=>⟨G1,H1,e1,I1,q1⟩)
theorem qQm {op} {t:TE3} (h:PE3 X a t):PE3 X (.BoolOp op [a] pos) t:=fun pins s τ G H Q I hw=>BoolOp_one (h pins s τ G H Q I hw)
theorem kZ7 (ha:PE3 X a ta) (hb:PE3 X (.BoolOp .And (b::rest) pos) tb):PE3 X (.BoolOp .And (a::b::rest) pos) (kJo ta tb):=by
 intro pins s τ G H Q I h
 refine BoolOp_and (thn (ha pins s τ G H _ I h) fun v s1 w_=>w_.el fun x G1 H1 e1 I1 r1 ⟨k,ez,q1⟩=> ?_)
 subst ez
 obtain⟨v',rv',ru'⟩:=r1
 cases (show v'= .bl k from rv');cases ru'
 refine wpAny_truthy_bool ?_
 cases k with
 | true=>exact thn (hb pins s1 τ G1 H1 Q I1 q1) fun _ _ z=>z.ext e1
 | false=>exact⟨.bl false,G1,H1,e1,I1,⟨.bl false,rfl,rfl⟩,q1⟩
theorem e_not (ha:PE3 X a ta):PE3 X (.UnaryOp .Not a pos) (qUk ta):=by
 intro pins s τ G H Q I h
 refine UnaryOp_ (thn (ha pins s τ G H _ I h) fun v s1 w_=>w_.el fun x G1 H1 e1 I1 r1 ⟨k,ez,q1⟩=> ?_)
 subst ez
 obtain⟨v',rv',ru'⟩:=r1
 cases (show v'= .bl k from rv');cases ru'
 exact not_of (wpAny_truthy_bool ⟨.bl (!k),G1,H1,e1,I1,⟨.bl (!k),rfl,rfl⟩,q1⟩)
theorem jJg:PA3 X [] tNil:=fun _ _ _ _ G H Q I h=>Calls.spliced_nil ⟨[],G,H,.refl H,I,⟨[],rfl,.nil⟩,h⟩
theorem jJa {e:Expr} {te:TE3} (ha:PE3 X e te) (hr:PA3 X es t) (hs:starEach (e::es) X.env=(false,eval e X.env)::starEach es X.env:=by rfl):PA3 X (e::es) (jJb te t):=by
 intro pos pins s τ G H Q I h
 rw[hs]
 show wpAny _ _ (spliced ((false,eval e X.env)::backTo pos (starEach es X.env))) _ _ s
 refine Calls.spliced_cons (thn (ha pins s τ G H _ I h) fun u s1 w_=>w_.el fun x G1 H1 e1 I1 r1 q1=> ?_)
 refine thn (hr pos pins s1 τ G1 H1 _ I1 q1) fun us s2 w_=>w_.el fun xs G2 H2 e2 I2 r_ q2=>r_.el fun vs rs rv=> ?_
 obtain⟨v,rr,rvv⟩:=r1.mono e2
 exact⟨x::xs,G2,H2,e1.trans e2,I2,⟨v::vs,⟨v,vs,rfl,rr,rs⟩,.cons rvv rv⟩,q2⟩
theorem jUb {x1} (h:PA3 X es t):PE3 X (.Tuple es x1 pos) (tTup t):=by
 intro pins s τ G H Q I hq
 refine wpAny_Tuple_spliced (thn (h pos pins s τ G H _ I hq) fun us s1 w_=>w_.el fun xs G1 H1 e1 i_ r_ ⟨z,q⟩=>i_.el fun σ I1 hs1 hg1=>r_.el fun vs rs rv=>⟨by rw[<-rv.length,<-rs.length];exact z,?_⟩)
 have hf:H1 s1.heap.objs.size=none:=I1.hok.fresh (Nat.le_refl _)
 have e2:Ext H1 (upd H1 s1.heap.objs.size (.tup vs)):= .upd (.none hf)
 refine⟨.tup xs,G1,upd H1 s1.heap.objs.size (.tup vs),e1.trans e2,⟨σ,I1.laid (t':=s1.toks) (fun b u e=>Heap.get?_push_of_some _ e) (Nat.le_refl _) ?_,hs1.mono e2,hg1.tupNew hf⟩,⟨.ref s1.heap.objs.size,Rep.tupNew rs hf,rfl⟩,q⟩
 exact⟨by rw[<-rs.length];exact z,us,rv,⟨_,Heap.get?_push_size _ rfl,rfl,_,rfl,rfl⟩⟩
theorem jQo (h:PA3 X es t):PE3 X (.List es pos) (tLst t):=by
 intro pins s τ G H Q I hq
 refine wpAny_List_spliced (thn (h pos pins s τ G H _ I hq) fun us s1 w_=>w_.el fun xs G1 H1 e1 i_ r_ ⟨z,q⟩=>i_.el fun σ I1 hs1 hg1=>r_.el fun vs rs rv=>⟨by rw[<-rv.length,<-rs.length];exact z,?_⟩)
 have hf:H1 s1.heap.objs.size=none:=I1.hok.fresh (Nat.le_refl _)
 have e2:Ext H1 (upd H1 s1.heap.objs.size (.lst vs)):= .upd (.none hf)
 refine⟨.ref s1.heap.objs.size,gup G1 s1.heap.objs.size (.lst xs),upd H1 s1.heap.objs.size (.lst vs),e1.trans e2,⟨σ,I1.laid (t':=s1.toks) (fun b u e=>Heap.get?_push_of_some _ e) (Nat.le_refl _) ?_,hs1.mono e2,hg1.lstNew rs (.none hf)⟩,⟨.ref s1.heap.objs.size,rfl,rfl⟩,q _ (hg1.fresh hf)⟩
 exact⟨by rw[<-rs.length];exact z,us,0,rv,Heap.get?_push_size _ rfl⟩
theorem e_ix {r:R3} (hr:Ix3 X r) (ha:PE3 X a ta) (hb:PE3 X b tb) (hs:qV9 b):PE3 X (.Subscript a b pos) (tOp r ta tb):=by
 intro pins s τ G H Q I h
 exact Subscript_ (bin3 ha hb I h fun v u s2 x y G2 H2 e I2 rx ry q=>thn (hr a b pins s2 τ G2 H2 x y v u Q I2 rx ry q (hs _ _)) fun _ _ z=>z.ext e)
def rIx:R3:=fun x y G Q=>∃xs i t,seqT G x=some xs/\y= .int i/\atI xs i=some t/\Q t G
theorem jXf {o:Option GO} {xs:List T} (h:asL o=some xs):o=some (.lst xs):=by
 cases o with
 | none=>cases h
 | some g=>cases g with
  | lst ys=>cases h;rfl
  | dct _=>cases h
  | dck _=>cases h
  | fdc _=>cases h
  | ins _ _=>cases h
  | exc _=>cases h
theorem jUe {K:PySem.W.Frag} {H:Hp} {G:Gp} {x:T} {a:V} {xs:List T} (hg:GRel K H G) (r:Rep K H x a) (h:seqT G x=some xs):
  ∃p vs,a= .ref p/\(SqL K H p vs\/SqT K H p vs)/\Reps K H xs vs:=by
 cases x with
 | tup ys=>cases h;obtain⟨p,vs,e,h1,h2⟩:=(show ∃p vs,a= .ref p/\H p=some (.tup vs)/\Reps K H xs vs from r);exact⟨p,vs,e,.inr (.of h1),h2⟩
 | scr ys=>cases h;obtain⟨p,vs,e,h1,h2⟩:=(show ∃p vs,a= .ref p/\FrL K H p vs/\Reps K H xs vs from r);exact⟨p,vs,e,.inl h1.sq,h2⟩
 | ref p=>
  obtain⟨vs,h1,h2⟩:=hg.lst (jXf h)
  exact⟨p,vs,r,.inl (.of h1),h2⟩
 | non=>cases h
 | bl _=>cases h
 | int _=>cases h
 | str _=>cases h
 | ty _=>cases h
theorem ix_any:Ix3 X rIx:=
 Ix3.of (ix_list.or ix_tup) fun H G x y a b Q hg ra rb ⟨xs,i,t,hx,ey,ht,q⟩=>by
  subst ey;cases (show b= .int i from rb)
  obtain⟨p,vs,e,hq,r⟩:=jUe hg ra hx
  subst e
  obtain⟨v,hv,rv⟩:=r.atI ht
  rcases hq with hq | hq
  ·exact .inl ⟨p,vs,i,v,rfl,rfl,hq,hv,t,G,.refl H,hg,rv,q⟩
  ·exact .inr ⟨p,vs,i,v,rfl,rfl,hq,hv,t,G,.refl H,hg,rv,q⟩
theorem jJp {id:String} {r:List T->Gp->VK3->Prop} {x:Str} {p:Pos} {e:Expr} (hc:Call3 X (.builtin id) r) (hg:Gl X x) (hm:X.mg x=none) (hv:bootBuiltins x=some (.builtin id)) (ha:PA3 X (e::es) t) (hn:x≠"__name__":=by decide) (hdb:(x == ("__debug__":Str))=false:=by decide)
  (he:starEach (e::es) X.env=(false,eval e X.env)::starEach es X.env:=by rfl) (hpl:(backTo pos (starEach es X.env)).any (·.1)=false:=by rfl):PE3 X (.Call (.Name x p) (e::es) [] pos) (tCB r t):=by
 intro pins s τ G H Q I h
 obtain⟨σ,I0,hs0,hg0⟩:=_root_.id I
 refine wpAny_Call_Name_kw (jQ1 I0 hg hm hv ?_ hn hdb)
 exact PyProof.Rows.callWith_builtin1 (thn (ha pos pins s τ G H _ I h) fun us s1 w_=>w_.el fun xs G1 H1 e1 I1 r1 q1=>thn (hc pins s1 τ G1 H1 xs us Q I1 r1 q1) fun _ _ z=>z.ext e1) he hpl
theorem jKo {T0:String} {r:List T->Gp->VK3->Prop} {x:Str} {p:Pos} {e:Expr} (hc:Call3 X (.type T0) r) (hg:Gl X x) (hm:X.mg x=none) (hv:bootBuiltins x=some (.type T0)) (ha:PA3 X (e::es) t) (hn:x≠"__name__":=by decide) (hdb:(x == ("__debug__":Str))=false:=by decide)
  (he:starEach (e::es) X.env=(false,eval e X.env)::starEach es X.env:=by rfl) (hpl:(backTo pos (starEach es X.env)).any (·.1)=false:=by rfl):PE3 X (.Call (.Name x p) (e::es) [] pos) (tCB r t):=by
 intro pins s τ G H Q I h
 obtain⟨σ,I0,hs0,hg0⟩:=_root_.id I
 refine wpAny_Call_Name_kw (jQ1 I0 hg hm hv ?_ hn hdb)
 exact PyProof.Rows.callWith_type1 (thn (ha pos pins s τ G H _ I h) fun us s1 w_=>w_.el fun xs G1 H1 e1 I1 r1 q1=>thn (hc pins s1 τ G1 H1 xs us Q I1 r1 q1) fun _ _ z=>z.ext e1) he hpl
theorem jVh {K:PySem.W.Frag} {H:Hp} {x:T} {vs:List V} (h:Reps K H [x] vs):∃v,vs=[v]/\Rep K H x v:=by
 obtain⟨v,ws,rfl,r,e⟩:=h;cases e;exact⟨v,rfl,r⟩
theorem kKo {K:PySem.W.Frag} {H:Hp} {x y:T} {vs:List V} (h:Reps K H [x,y] vs):∃v w,vs=[v,w]/\Rep K H x v/\Rep K H y w:=by
 obtain⟨v,ws,rfl,r,w,ws2,rfl,r2,e⟩:=h;cases e;exact⟨v,w,rfl,r,r2⟩
def rLen:List T->Gp->VK3->Prop:=fun xs G Q=>∃x ys,xs=[x]/\seqT G x=some ys/\Q (.int ys.length) G
theorem jKy:Call3 X (.builtin "len") rLen:=
 Call3.of kQd fun H G xs as Q hg ra ⟨x,ys,e,hx,q⟩=>by
  subst e
  obtain⟨v,rfl,rv⟩:=jVh ra
  obtain⟨p,vs,rfl,hq,r⟩:=jUe hg rv hx
  exact⟨p,vs,rfl,hq,.int ys.length,G,.refl H,hg,by rw[r.length];rfl,q⟩
def rAbs:List T->Gp->VK3->Prop:=fun xs G Q=>∃i,xs=[.int i]/\Q (.int (if i<0 then -i else i)) G
def rMax:List T->Gp->VK3->Prop:=fun xs G Q=>∃i j,xs=[.int i,.int j]/\Q (.int (if j>i then j else i)) G
theorem c_max (hc:X.calm=true):Call3 X (.builtin "max") rMax:=
 Call3.of (qJi hc) fun H G xs as Q hg ra ⟨i,j,e,q⟩=>by
  subst e
  obtain⟨v,w,rfl,rv,rw'⟩:=kKo ra
  cases (show v= .int i from rv);cases (show w= .int j from rw')
  exact⟨i,j,rfl,.int _,G,.refl H,hg,rfl,q⟩
def kU9:List T->Gp->VK3->Prop:=fun xs G Q=>∃k,xs=[.bl k]/\Q (.int (if k then 1 else 0)) G
theorem c_int:Call3 X (.type "int") kU9:=
 Call3.of qJj fun H G xs as Q hg ra ⟨k,e,q⟩=>by
  subst e
  obtain⟨v,rfl,rv⟩:=jVh ra
  cases (show v= .bl k from rv)
  exact .inr ⟨k,rfl,.int _,G,.refl H,hg,rfl,q⟩
def qUv:List T->Gp->VK3->Prop:=fun xs G Q=>∃i j,xs=[.int i,.int j]/\CDiv i j/\Q (.tup [.int (i / j),.int (i%j)]) G
def kYr:List T->Gp->VK3->Prop:=fun xs G Q=>∃x ys,xs=[x]/\seqT G x=some ys/\∀p,G p=none->Q (.ref p) (gup G p (.lst ys))
theorem c_list:Call3 X (.type "list") kYr:=
 Call3.of kQc fun H G xs as Q hg ra ⟨x,ys,e,hx,q⟩=>by
  subst e
  obtain⟨v,rfl,rv⟩:=jVh ra
  obtain⟨p,vs,rfl,hq,r⟩:=jUe hg rv hx
  exact⟨p,vs,rfl,hq,fun l hl=>⟨.ref l,_,.upd (.none hl),hg.lstNew r (.none hl),rfl,q l (hg.fresh hl)⟩⟩
def jJ5:List T->Gp->VK3->Prop:=fun xs G Q=>∃x ys,xs=[x]/\seqT G x=some ys/\Q (.tup ys) G
theorem jUc:Call3 X (.type "tuple") jJ5:=
 Call3.of kKd fun H G xs as Q hg ra ⟨x,ys,e,hx,q⟩=>by
  subst e
  obtain⟨v,rfl,rv⟩:=jVh ra
  obtain⟨p,vs,rfl,hq,r⟩:=jUe hg rv hx
  cases x with
  | tup zs=>
   cases hx
   obtain⟨p',vs',e',h1,h2⟩:=(show ∃p' vs',V.ref p= .ref p'/\H p'=some (.tup vs')/\Reps X.K H ys vs' from rv)
   cases e'
   exact⟨p,vs',rfl,.inr ⟨.of h1,.tup ys,G,.refl H,hg,⟨p,vs',rfl,h1,h2⟩,q⟩⟩
  | scr zs=>
   cases hx
   obtain⟨p',vs',e',h1,h2⟩:=(show ∃p' vs',V.ref p= .ref p'/\FrL X.K H p' vs'/\Reps X.K H ys vs' from rv)
   cases e'
   exact⟨p,vs',rfl,.inl ⟨h1.sq,fun l hl=>⟨.tup ys,G,.upd (.none hl),hg.tupNew hl,Rep.tupNew h2 hl,q⟩⟩⟩
  | ref p'=>
   cases (show V.ref p= .ref p' from rv)
   obtain⟨vs',h1,h2⟩:=hg.lst (jXf hx)
   exact⟨p,vs',rfl,.inl ⟨.of h1,fun l hl=>⟨.tup ys,G,.upd (.none hl),hg.tupNew hl,Rep.tupNew h2 hl,q⟩⟩⟩
  | non=>cases hx
  | bl _=>cases hx
  | int _=>cases hx
  | str _=>cases hx
  | ty _=>cases hx
noncomputable def rCat:R3:=fun x y G Q=>∃p q xs ys,x= .ref p/\y= .ref q/\G p=some (.lst xs)/\G q=some (.lst ys)/\xs.length+ys.length<=sizeLine/\∀l,G l=none->Q (.ref l) (gup G l (.lst (xs++ys)))
noncomputable def rRep:R3:=fun x y G Q=>∃p xs n,x= .ref p/\y= .int n/\G p=some (.lst xs)/\n.toNat * xs.length<=sizeLine/\n<2^62/\ -(2^62)<n/\∀l,G l=none->Q (.ref l) (gup G l (.lst (List.replicate n.toNat xs).flatten))
noncomputable def tyT (G:Gp) (T0:String) (x:T):Prop:=match x with
 | .str _=>T0="str"
 | .int _=>T0="int"
 | .ref p=>(T0="list"/\∃xs,G p=some (.lst xs))\/(T0="dict"/\((∃kvs,G p=some (.dck kvs))\/∃kvs,G p=some (.dct kvs)))
 | _=>False
theorem tyT.of {K:PySem.W.Frag} {H:Hp} {G:Gp} {T0:String} {x:T} {a:V} (hg:GRel K H G) (r:Rep K H x a) (h:tyT G T0 x):tyV K T0 a H:=by
 cases x with
 | str z=>cases (show a= .str z from r);exact h
 | int z=>cases (show a= .int z from r);exact h
 | ref p=>
  cases (show a= .ref p from r)
  rcases h with ⟨e,xs,h⟩ | ⟨e,h⟩
  ·obtain⟨vs,h1,_⟩:=hg.lst h;exact .inl ⟨e,vs,.of h1⟩
  ·refine .inr (.inr (.inl ⟨e,?_⟩))
   rcases h with ⟨kvs,h⟩ | ⟨kvs,h⟩
   ·obtain⟨ws,h1,_⟩:=hg p _ h;exact .inl ⟨ws,h1⟩
   ·obtain⟨ws,h1,_⟩:=hg p _ h;exact .inr ⟨ws,h1⟩
 | non=>exact False.elim h
 | bl _=>exact False.elim h
 | ty _=>exact False.elim h
 | tup _=>exact False.elim h
 | scr _=>exact False.elim h
def tBM (T0:String) (r:T->List T->Gp->VK3->Prop) (to:TE3) (t:TA3):TE3:=fun τ G Q=>to τ G fun x G1=>tyT G1 T0 x/\t τ G1 fun xs G2=>r x xs G2 Q
theorem e_bm {T0 id:String} {r:T->List T->Gp->VK3->Prop} {o e:Expr} {name:Str} {apos cpos:Pos} {to:TE3} (pa:PlainAttrs T0) (slot:Slot T0 name id) (hty:typeOf (.builtin id)=pure (.type "method_descriptor")) (hm:Mt3 X id r) (ho:PE3 X o to) (ha:PA3 X (e::es) t)
  (hbase:attributeBase o name X.env (eval o X.env)=eval o X.env:=by rfl)
  (hfew:((backTo cpos (starEach (e::es) X.env)).all (fun x=> !x.1)&&(backToKw cpos (keywordEach [] X.env)).all (fun x=>x.1.isSome)
   &&decide ((e::es).length+([]:List Keyword).length+(if ([]:List Keyword).isEmpty then 0 else 1)<30))=true:=by rfl)
  (hline:(apos.endLine == cpos.line)=true:=by rfl) (hs:starEach (e::es) X.env=(false,eval e X.env)::starEach es X.env:=by rfl) (hplain:(backTo cpos (starEach es X.env)).any (·.1)=false:=by rfl):
  PE3 X (.Call (.Attribute o name apos) (e::es) [] cpos) (tBM T0 r to t):=by
 intro pins s τ G H Q I h
 refine wpAny_Call_method_late hbase hfew hline rfl (thn (ho pins s τ G H _ I h) fun v s1 w_=>w_.el fun x G1 H1 e1 I1 r1 ⟨ty,q1⟩=> ?_)
 obtain⟨σ,I0,hs0,hg0⟩:=_root_.id I1
 obtain⟨a0,ra0,rv0⟩:=_root_.id r1
 obtain⟨h1,h2⟩:=tyV_is I0 rv0 (tyT.of hg0 ra0 ty)
 refine⟨T0,id,pa,slot,hty,h1,h2,?_⟩
 have hA:=ha cpos pins s1 τ G1 H1 _ I1 q1
 rw[hs] at hA ⊢
 refine Calls.callWith_builtin (by show (false||(backTo cpos (starEach es X.env)).any (·.1))=false;rw[hplain]<;>rfl) (Calls.evalArgs_plain ?_)
 exact thn hA fun us s2 w_=>w_.el fun vs G2 H2 e2 I2 r2 q2=>thn (hm pins s2 τ G2 H2 x vs v us Q I2 (r1.mono e2) r2 q2) fun _ _ z=>(z.ext e2).ext e1
def jKc:T->List T->Gp->VK3->Prop:=fun x xs G Q=>∃p ys y,x= .ref p/\xs=[y]/\G p=some (.lst ys)/\ys.length<sizeLine/\Q .non (gup G p (.lst (ys++[y])))
def qKl:T->T->T->Gp->(Gp->Prop)->Prop:=fun o i v G Q=>∃p xs k j,o= .ref p/\i= .int k/\G p=some (.lst xs)/\ixN xs.length k=some j/\Q (gup G p (.lst (xs.set j v)))
theorem s_list:Set3 X qKl:=
 Set3.of qJ3 fun H G o i v a b c Q hg ra rb rc ⟨p,xs,k,j,eo,ei,hp,hj,q⟩=>by
  subst eo;subst ei
  cases (show a= .ref p from ra);cases (show b= .int k from rb)
  obtain⟨vs,h1,h2⟩:=hg.lst hp
  exact⟨p,vs,k,j,rfl,rfl,h1,by rw[<-h2.length];exact hj,_,.upd (.lst h1),hg.lstNew (h2.set rc j) (.lst h1),q⟩
end
section
variable {X:Cx}
theorem o_cat:Op3 X (binaryOp .Add) rCat:=
 Op3.of op_cat fun H G x y a b Q hg ra rb ⟨p,q,xs,ys,ex,ey,hp,hq,hz,h⟩=>by
  subst ex;subst ey
  cases (show a= .ref p from ra);cases (show b= .ref q from rb)
  obtain⟨vs,h1,h2⟩:=hg.lst hp
  obtain⟨ws,h3,h4⟩:=hg.lst hq
  exact⟨p,q,vs,ws,rfl,rfl,h1,h3,by rw[<-h2.length,<-h4.length];exact hz,fun l hl=>⟨.ref l,_,.upd (.none hl),hg.lstNew (h2.append h4) (.none hl),rfl,h l (hg.fresh hl)⟩⟩
theorem o_rep:Op3 X (binaryOp .Mult) rRep:=
 Op3.of op_rep fun H G x y a b Q hg ra rb ⟨p,xs,n,ex,ey,hp,hz,h1,h2,h⟩=>by
  subst ex;subst ey
  cases (show a= .ref p from ra);cases (show b= .int n from rb)
  obtain⟨vs,h3,h4⟩:=hg.lst hp
  refine⟨p,n,vs,rfl,rfl,h3,by omega,by omega,by rw[<-h4.length,Nat.mul_comm];exact hz,fun l hl=>⟨.ref l,_,.upd (.none hl),hg.lstNew (h4.rep _) (.none hl),rfl,h l (hg.fresh hl)⟩⟩
theorem jK6:Mt3 X "list.append" jKc:=
 Mt3.of kY6 fun H G x xs a as Q hg ra ras ⟨p,ys,y,ex,exs,hp,hz,q⟩=>by
  subst ex;subst exs
  cases (show a= .ref p from ra)
  obtain⟨v,rfl,rv⟩:=jVh ras
  obtain⟨vs,h1,h2⟩:=hg.lst hp
  exact⟨p,vs,v,rfl,rfl,h1,by rw[<-h2.length];exact hz,.non,_,.upd (.lst h1),hg.lstNew (h2.append (.one rv)) (.lst h1),rfl,q⟩
end
def jKn:TS3:=fun D τ G=>D.nx τ G
def tSeq (t u:TS3):TS3:=fun D τ G=>t {D with nx:=u D} τ G
def jKb (te:TE3):TS3:=fun D τ G=>te τ G fun _ G1=>D.nx τ G1
def tRet (te:TE3):TS3:=fun D τ G=>te τ G D.rt
def tRetN:TS3:=fun D _ G=>D.rt .non G
def tIfS (c:TT3) (t u:TS3):TS3:=fun D τ G=>c τ G fun b G1=>if b=true then t D τ G1 else u D τ G1
def kUx:TS3:=fun D τ G=>D.bk τ G
section
variable {X:Cx} {st:Stmt} {rest:List Stmt} {t u:TS3} {e:Expr} {te:TE3} {pos:Pos}
theorem jKe:PSs3 X [] jKn:=fun _ _ τ G H _ I h=>wpAny_execs_nil ⟨τ,G,H,.refl H,I,h⟩
theorem jJf (h1:PS3 X st t) (h2:PSs3 X rest u):PSs3 X (st::rest) (tSeq t u):=by
 intro pins s τ G H D I h
 refine wpAny_execs_cons (thn (h1 pins s τ G H {D with nx:=u D} I h) fun f s1 q=> ?_)
 cases f with
 | next=>
  obtain⟨τ',G',H',e',I',q⟩:=q
  exact thn (h2 pins s1 τ' G' H' D I' q) fun _ _ z=>z.ext e'
 | ret v=>exact q
 | brk=>exact q
 | cont=>exact q
theorem jJk (h1:PS3 X st t):PSs3 X [st] t:=by
 intro pins s τ G H D I h
 refine wpAny_execs_cons (thn (h1 pins s τ G H D I h) fun f s1 q=> ?_)
 cases f with
 | next=>exact wpAny_execs_nil q
 | ret v=>exact q
 | brk=>exact q
 | cont=>exact q
theorem qUp:PS3 X (.Break pos) kUx:=fun _ _ τ G H _ I h=>wpAny_Break ⟨τ,G,H,.refl H,I,h⟩
theorem jKg (he:PE3 X e te) (hs:swapsWith e none pos.line X.env=pure false:=by rfl):PS3 X (.Expr e pos) (jKb te):=by
 intro pins s τ G H D I h
 obtain⟨σ,I0,hs0,hg0⟩:=id I
 exact wpAny_Expr_any (thn (he pins s τ G H _ I h) fun v s1 w_=>w_.el fun x G1 H1 e1 I1 r1 q1=>⟨τ,G1,H1,e1,I1,q1⟩) I0.quiet hs
theorem jKd (he:PE3 X e te):PS3 X (.Return (some e) pos) (tRet te):=by
 intro pins s τ G H D I h
 exact wpAny_Return_some (thn (he pins s τ G H _ I h) fun v s1 w_=>w_.el fun x G1 H1 e1 I1 r1 q1=>⟨x,τ,G1,H1,e1,I1,r1,q1⟩)
theorem s_if {c:Expr} {a b:List Stmt} {tc:TT3} (hc:PT3 X c tc) (ha:PSs3 X a t) (hb:PSs3 X b u):PS3 X (.If c a b pos) (tIfS tc t u):=by
 intro pins s τ G H D I h
 refine wpAny_If (thn (hc pins s τ G H _ I h) fun d s1 w_=>w_.el fun G1 H1 e1 I1 q1=> ?_)
 cases d with
 | true=>exact thn (ha pins s1 τ G1 H1 D I1 q1) fun _ _ z=>z.ext e1
 | false=>exact thn (hb pins s1 τ G1 H1 D I1 q1) fun _ _ z=>z.ext e1
end
abbrev TG3:=T->St3->Gp->(St3->Gp->Prop)->Prop
abbrev TGs3:=List T->St3->Gp->(St3->Gp->Prop)->Prop
def GP3 (X:Cx) (pins:List (Addr×Obj)) (H:Hp) (Q:St3->Gp->Prop) (s':Shared):Prop:=∃ τ' G' H',Ext H H'/\Inv3 X pins τ' G' H' s'/\Q τ' G'
noncomputable def PG3 (X:Cx) (target:Expr) (t:TG3):Prop:=
 ∀(pins:List (Addr×Obj)) (s:Shared) (τ:St3) (G:Gp) (H:Hp) (v:T) (u:Value) (Q:St3->Gp->Prop),Inv3 X pins τ G H s->RU X.K H v u->t v τ G Q->
  wpAny (model X.prog X.w) X.A (assign target X.env u) (fun _ s'=>GP3 X pins H Q s') X.xe s
noncomputable def PGs3 (X:Cx) (ts:List Expr) (t:TGs3):Prop:=
 ∀(pins:List (Addr×Obj)) (s:Shared) (τ:St3) (G:Gp) (H:Hp) (vs:List T) (us:List Value) (Q:St3->Gp->Prop),Inv3 X pins τ G H s->RUs X.K H vs us->t vs τ G Q->
  wpAny (model X.prog X.w) X.A (assignInOrder ((assignEach ts X.env).map (·.2)) us) (fun _ s'=>GP3 X pins H Q s') X.xe s
def jJi (i:Nat):TG3:=fun v τ G Q=>Q (τ.set i (some v)) G
def gNil:TGs3:=fun vs τ G Q=>vs=[]/\Q τ G
def jVc (t:TG3) (u:TGs3):TGs3:=fun vs τ G Q=>∃v r,vs=v::r/\t v τ G fun τ' G'=>u r τ' G' Q
def gTup (n:Nat) (t:TGs3):TG3:=fun v τ G Q=>∃xs,v= .tup xs/\xs.length=n/\t xs τ G Q
def gSub (to ti:TE3) (t:T->T->T->Gp->(Gp->Prop)->Prop):TG3:=fun v τ G Q=>to τ G fun o G1=>ti τ G1 fun i G2=>t o i v G2 fun G3=>Q τ G3
def tAsg (te:TE3) (g:TG3):TS3:=fun D τ G=>te τ G fun x G1=>g x τ G1 D.nx
section
variable {X:Cx} {pos:Pos}
theorem jKa {i:Nat} {x:Str} (hN:X.N.Nodup) (hi:X.N[i]? =some x:=by rfl) (hx:Loc X.env.scope x:=by first | exact Or.inl rfl | exact Or.inr rfl) (hf:X.fn x=true\/X.env.scope.names.lookup x=some .local:=by first | exact .inl rfl | exact .inr rfl):PG3 X (.Name x pos) (jJi i):=by
 rintro pins s τ G H v u Q ⟨σ,I,hs,hg⟩ ⟨a,ra,rv⟩ h
 exact wpAny_assign_Name (jV1 I hN hi hx rv (fun s' I'=>⟨_,G,H,.refl H,⟨_,I',hs.set i ra,hg⟩,h⟩) hf)
theorem kVj:PGs3 X [] gNil:=by
 rintro pins s τ G H vs us Q I ⟨as,r,rv⟩ ⟨e,h⟩
 subst e
 cases (show as=[] from r)
 cases rv
 exact assignInOrder_nil ⟨τ,G,H,.refl H,I,h⟩
theorem jVb {e:Expr} {es:List Expr} {t:TG3} {u:TGs3} (h1:PG3 X e t) (h2:PGs3 X es u)
  (hs:(assignEach (e::es) X.env).map (·.2)=assign e X.env::(assignEach es X.env).map (·.2):=by rfl):PGs3 X (e::es) (jVc t u):=by
 rintro pins s τ G H vs us Q I ⟨as,r,rv⟩ ⟨v,vr,e1,h⟩
 subst e1
 obtain⟨a,ar,rfl,ra,rar⟩:=r
 cases rv with
 | cons q qq=>
  rw[hs]
  refine assignInOrder_cons (thn (h1 pins s τ G H v _ _ I ⟨a,ra,q⟩ h) fun _ s1 ⟨τ1,G1,H1,e1,I1,q1⟩=> ?_)
  exact thn (h2 pins s1 τ1 G1 H1 vr _ Q I1 ⟨ar,Reps.mono e1 _ rar,qq⟩ q1) fun _ s2 ⟨τ2,G2,H2,e2,z⟩=>⟨τ2,G2,H2,e1.trans e2,z⟩
theorem qQf {es:List Expr} {k:Nat} {t:TGs3} {n:Nat} (hc:X.calm=true) (h:PGs3 X es t)
  (hn:(assignEach es X.env).length=n:=by rfl) (hst:(assignEach es X.env).findIdx? (·.1)=none:=by rfl):PG3 X (.Tuple es k pos) (gTup n t):=by
 rintro pins s τ G H v u Q ⟨σ,I,hs,hg⟩ ⟨a,ra,rv⟩ ⟨xs,ev,hl,hw⟩
 subst ev
 obtain⟨p,vs,e1,h1,r1⟩:=(show ∃p vs,a= .ref p/\H p=some (.tup vs)/\Reps X.K H xs vs from ra)
 subst e1
 cases rv
 obtain⟨its,rv,ht,hz⟩:=I.tuple (.of h1)
 refine assign_Tuple_tuple (I.ok.hd hc) ht (by simp[hn,<-hl,r1.length,rv.length]) hst fun h' hx=> ?_
 have I1:Inv X pins σ H {s with heap:=h'}:=I.kept (t':=s.toks) fun b o e=>hx b o (Nat.ne_of_lt (Heap.lt_size e)) e
 exact h pins _ τ G H xs _ Q ⟨σ,I1,hs,hg⟩ ⟨vs,r1,by simpa using rv⟩ hw
theorem qQg {o i:Expr} {to ti:TE3} {t:T->T->T->Gp->(Gp->Prop)->Prop} (ho:PE3 X o to) (hi:PE3 X i ti) (hs:Set3 X t)
  (ha:∀v,assign (.Subscript o i pos) X.env v=(do
   let ov <-holding [v] (eval o X.env)
   let iv <-holding [v,ov] (eval i X.env)
   standAt pos
   holding [v,ov,iv] (setItem ov iv v)
   release [v,ov,iv] []):=by intro _;rfl):PG3 X (.Subscript o i pos) (gSub to ti t):=by
 intro pins s τ G H v u Q I r h
 rw[ha]
 refine wpAny_bind (wpAny_holding (thn (ho pins s τ G H _ I h) fun ov s1 w_=>w_.el fun x G1 H1 e1 I1 r1 q1=> ?_))
 refine wpAny_bind (wpAny_holding (thn (hi pins s1 τ G1 H1 _ I1 q1) fun iv s2 w_=>w_.el fun y G2 H2 e2 I2 r2 q2=> ?_))
 refine wpAny_bind (wpAny_standAt (wpAny_bind (wpAny_holding (thn (hs pins s2 τ G2 H2 x y v ov iv u _ I2 (r1.mono e2) r2 (r.mono (e1.trans e2)) q2) fun _ s3 ⟨G3,H3,e3,I3,q3⟩=> ?_))))
 exact wpAny_release ⟨τ,G3,H3,(e1.trans e2).trans e3,I3,q3⟩
theorem qJ8 {tg e:Expr} {te:TE3} {g:TG3} (he:PE3 X e te) (hg:PG3 X tg g) (hs:swapsWithSole [tg] e pos.line X.env=pure false:=by rfl) (hw:swappedStores [tg] e X.env=pure none:=by rfl)
  (h1:(assignEach [tg] X.env).map (·.2)=[assign tg X.env]:=by rfl):PS3 X (.Assign [tg] e pos) (tAsg te g):=by
 intro pins s τ G H D I h
 refine wpAny_Assign_stores (thn (he pins s τ G H _ I h) fun v s1 w_=>w_.el fun x G1 H1 e1 I1 r1 q1=> ?_) hs hw
 rw[h1]
 exact thn (hg pins s1 τ G1 H1 x v _ I1 r1 q1) fun _ s2 ⟨τ2,G2,H2,e2,q⟩=>⟨τ2,G2,H2,e1.trans e2,q⟩
theorem jJ9 {i:Nat} {x:Str} {e:Expr} {te:TE3} {pos':Pos} (hN:X.N.Nodup) (he:PE3 X e te) (hi:X.N[i]? =some x:=by rfl) (hx:Loc X.env.scope x:=by first | exact Or.inl rfl | exact Or.inr rfl)
  (hs:swapsWith e (some (.Name x pos')) pos.line X.env=pure false:=by rfl) (hf:X.fn x=true\/X.env.scope.names.lookup x=some .local:=by first | exact .inl rfl | exact .inr rfl):
  PS3 X (.Assign [.Name x pos'] e pos) (tAsg te (jJi i)):=by
 intro pins s τ G H D I h
 refine wpAny_Assign_Name (thn (he pins s τ G H _ I h) fun v s1 w_=>w_.el fun y G1 H1 e1 i_ r_ q1=>i_.el fun σ I1 hs1 hg1=>r_.el fun a ra rv=> ?_) hs
 exact jV1 I1 hN hi hx rv (fun s2 I2=>⟨_,G1,H1,e1,⟨_,I2,hs1.set i ra,hg1⟩,q1⟩) hf
def tPar (i j:Nat) (ta:TA3):TS3:=fun D τ G=>ta τ G fun vs G1=>∃v w,vs=[v,w]/\D.nx ((τ.set i (some v)).set j (some w)) G1
noncomputable def jV0 (c:TT3) (tb:TS3):TS3:=fun D τ G=>∃W:Nat->St3->Gp->Prop,(∃m,W m τ G)/\∀m τ G,W m τ G->
 c τ G fun b G1=>if b=true then ∃N:St3->Gp->Prop,(∀ τ' G',N τ' G'->∃m',m'<m/\W m' τ' G')/\tb {D with nx:=N,ct:=N,bk:=D.nx} τ G1 else D.nx τ G1
theorem kQv {c:Expr} {body:List Stmt} {tc:TT3} {tb:TS3} (hp:PassesOwn (model X.prog X.w) X.A X.env X.xe) (hc:PT3 X c tc) (hb:PSs3 X body tb):PS3 X (.While c body [] pos) (jV0 tc tb):=by
 intro pins s τ G H D I h
 obtain⟨W,⟨m0,w0⟩,turn⟩:=h
 refine wpAny_While (codeAny_whileLoop (fun n s'=>∃ τ' G' H',Ext H H'/\Inv3 X pins τ' G' H' s'/\W n τ' G') ?_ m0 ⟨τ,G,H,.refl H,I,w0⟩)
 rintro n s1 ⟨τ1,G1,H1,e1,I1,w1⟩
 refine wpAny_passesOwn hp (thn (hc pins s1 τ1 G1 H1 _ I1 (turn n τ1 G1 w1)) fun b s2 w_=>w_.el fun G2 H2 e2 I2 q2=> ?_)
 cases b with
 | true=>
  obtain⟨N,hN,q2⟩:=q2
  rw[if_pos rfl]
  refine wpAny_passesOwn hp (thn (hb pins s2 τ1 G2 H2 _ I2 q2) fun f s3 q3=> ?_)
  cases f with
  | next=>
   obtain⟨τ3,G3,H3,e3,I3,n3⟩:=q3
   obtain⟨m',hm,w3⟩:=hN τ3 G3 n3
   exact⟨m',hm,τ3,G3,H3,(e1.trans e2).trans e3,I3,w3⟩
  | cont=>
   obtain⟨τ3,G3,H3,e3,I3,n3⟩:=q3
   obtain⟨m',hm,w3⟩:=hN τ3 G3 n3
   exact⟨m',hm,τ3,G3,H3,(e1.trans e2).trans e3,I3,w3⟩
  | brk=>exact SP3.ext (f:= .next) (e1.trans e2) q3
  | ret v=>exact SP3.ext (f:= .ret v) (e1.trans e2) q3
 | false=>
  rw[if_neg Bool.false_ne_true]
  exact wpAny_execs_nil ⟨τ1,G2,H2,e1.trans e2,I2,q2⟩
end
noncomputable def Items (K:PySem.W.Frag) (H0:Hp) (J:It) (xs:List T) (stay:Gp->Prop):Prop:=
 ∀i H G,Ext H0 H->GRel K H G->stay G->(i<xs.length->J.go i H)/\(xs.length<=i->J.stop i H)/\(i<xs.length->∀x H',J.yld i H x H'->Ext H H'/\GRel K H' G/\∃t,xs[i]? =some t/\Rep K H' t x)
abbrev TI3:=St3->Gp->(List T->(Gp->Prop)->Gp->Prop)->Prop
noncomputable def PIE3 (X:Cx) (pins:List (Addr×Obj)) (τ:St3) (H:Hp) (tg:Expr) (R:List T->(Gp->Prop)->Gp->Prop) (itv:Value) (s2:Shared):Prop:=
 ∃(it:Addr) (fp:List Addr) (tn:Nat->Heap->Prop) (J:It) (xs:List T) (stay:Gp->Prop) (G':Gp) (H':Hp),itv= .ref it/\Ext H H'/\Inv3 X pins τ G' H' s2/\Turn X.prog X.w X.K tg J fp it tn/\tn 0 s2.heap/\(∀b∈fp,FpOk X pins H' b)/\
  Items X.K H' J xs stay/\R xs stay G'
noncomputable def PI3 (X:Cx) (tg iter:Expr) (wi:TI3):Prop:=
 ∀(pins:List (Addr×Obj)) (s:Shared) (τ:St3) (G:Gp) (H:Hp) (R:List T->(Gp->Prop)->Gp->Prop),Inv3 X pins τ G H s->wi τ G R->
  wpAny (model X.prog X.w) X.A (eval iter X.env) (fun v s1=>wpAny (model X.prog X.w) X.A (pyIter v) (PIE3 X pins τ H tg R) X.xe s1) X.xe s
noncomputable def tFor (wi:TI3) (g:TG3) (tb:TS3):TS3:=fun D τ G=>wi τ G fun xs stay G1=>∃P:Nat->St3->Gp->Prop,P 0 τ G1/\(∀i τ G,i<=xs.length->P i τ G->stay G)/\
 (∀i x τ G,xs[i]? =some x->P i τ G->g x τ G fun τ2 G2=>tb {D with nx:=P (i+1),ct:=P (i+1),bk:=D.nx} τ2 G2)/\∀ τ G,P xs.length τ G->D.nx τ G
section
variable {X:Cx} {tg:Expr} {pos:Pos}
theorem jV2 {iter:Expr} {body:List Stmt} {wi:TI3} {g:TG3} {tb:TS3} (hp:PassesOwn (model X.prog X.w) X.A X.env X.xe) (hc:X.calm=true) (hi:PI3 X tg iter wi) (hg:PG3 X tg g) (hb:PSs3 X body tb)
  (hs:∀x,foldedSetIterable iter X.env x=pure x:=by intro _;rfl):PS3 X (.For tg iter body [] pos) (tFor wi g tb):=by
 intro pins s τ G H D I h
 refine wpAny_For (thn (hi pins s τ G H _ I h) fun v s1 h1=>thn h1 fun itv s2 h2=> ?_) hs
 obtain⟨it,fp,tn,J,xs,stay,G2,H2,e,eH,I2,T0,st2,f2,IT,P,p0,hstay,turn,fin⟩:=h2
 subst e
 have stat:∀ {H':Hp},(∀b∈fp,H' b=none)->∀b∈fp,FpOk X pins H' b:=fun hn b hb=>⟨hn b hb,(f2 b hb).2⟩
 refine codeAny_forLoop_any (fun n s'=>∃i τ' G' H',n=xs.length-i/\i<=xs.length/\Ext H2 H'/\Inv3 X pins τ' G' H' s'/\tn i s'.heap/\(∀b∈fp,H' b=none)/\P i τ' G') ?_ xs.length ⟨0,τ,G2,H2,rfl,Nat.zero_le _,.refl _,I2,st2,fun b hb=>(f2 b hb).1,p0⟩
 rintro n s3 ⟨i,τ3,G3,H3,en,hi3,e3,⟨σ3,I3,hs3,hg3⟩,st3,fr3,p3⟩
 obtain⟨go,stop,yl⟩:=IT i H3 G3 e3 hg3 (hstay i τ3 G3 hi3 p3)
 by_cases hlt:i<xs.length
 ·refine wpAny_passesOwn hp (thn (T0.item X rfl rfl rfl hc i pins s3 σ3 H3 X.xe I3 (stat fr3) st3 (go hlt)) fun r s4 ⟨u,hr,h4⟩=> ?_)
  subst hr
  refine wpAny_passesOwn hp (thn h4 fun _ s5 ⟨x,H5,I5,r5,y5,st5,fr5⟩=> ?_)
  obtain⟨e5,g5,t,ht,rt⟩:=yl hlt x H5 y5
  have I5':=I5.pinned (stat fr5) (T0.obj _ _ st5)
  refine wpAny_passesOwn hp (thn (hg _ s5 τ3 G3 H5 t u _ ⟨σ3,I5',hs3.mono e5,g5⟩ ⟨x,rt,r5⟩ (turn i t τ3 G3 ht p3)) fun _ s6 ⟨τ6,G6,H6,e6,I6,q6⟩=> ?_)
  refine wpAny_passesOwn hp (thn (hb _ s6 τ6 G6 H6 _ I6 q6) fun f s7 q7=> ?_)
  have e36:Ext H2 H6:=(e3.trans e5).trans e6
  have again:∀ {τ7:St3} {G7:Gp} {H7:Hp},Ext H6 H7->Inv3 X (pins++jVk fp s5.heap) τ7 G7 H7 s7->P (i+1) τ7 G7->
    ∃m,m<n/\∃i τ' G' H',m=xs.length-i/\i<=xs.length/\Ext H2 H'/\Inv3 X pins τ' G' H' s7/\tn i s7.heap/\(∀b∈fp,H' b=none)/\P i τ' G':=fun {τ7 G7 H7} e7 ⟨σ7,I7,hs7,hg7⟩ p7=>by
   refine⟨xs.length-(i+1),by omega,i+1,τ7,G7,H7,rfl,hlt,e36.trans e7,⟨σ7,I7.unpinned,hs7,hg7⟩,T0.keep _ _ _ st5 fun b hb o e=>(I7.pin (b,o) (List.mem_append_right _ (List.mem_append_right _ (jVf hb e)))).1,fun b hb=> ?_,p7⟩
   obtain⟨o,e,d⟩:=T0.obj _ _ st5 b hb
   exact (I7.pin (b,o) (List.mem_append_right _ (List.mem_append_right _ (jVf hb e)))).2.1
  have un:∀ {τ7:St3} {G7:Gp} {H7:Hp},Inv3 X (pins++jVk fp s5.heap) τ7 G7 H7 s7->Inv3 X pins τ7 G7 H7 s7:=fun ⟨σ7,I7,a,b⟩=>⟨σ7,I7.unpinned,a,b⟩
  cases f with
  | next=>obtain⟨τ7,G7,H7,e7,I7,n7⟩:=q7;exact again e7 I7 n7
  | cont=>obtain⟨τ7,G7,H7,e7,I7,n7⟩:=q7;exact again e7 I7 n7
  | brk=>obtain⟨τ7,G7,H7,e7,I7,q7⟩:=q7;exact⟨τ7,G7,H7,(eH.trans e36).trans e7,un I7,q7⟩
  | ret v=>obtain⟨x7,τ7,G7,H7,e7,I7,r7,q7⟩:=q7;exact⟨x7,τ7,G7,H7,(eH.trans e36).trans e7,un I7,r7,q7⟩
 ·have ei:i=xs.length:=by omega
  refine wpAny_passesOwn hp (thn (T0.done X rfl rfl rfl hc i pins s3 σ3 H3 X.xe I3 (stat fr3) st3 (stop (by omega))) fun r s4 ⟨hr,I4⟩=> ?_)
  subst hr;subst ei
  exact wpAny_execs_nil ⟨τ3,G3,H3,eH.trans e3,⟨σ3,I4,hs3,hg3⟩,fin τ3 G3 p3⟩
def iSeq (tl:TE3):TI3:=fun τ G R=>tl τ G fun x G1=>∃xs,seqT G1 x=some xs/\R xs (fun G'=>seqT G' x=some xs) G1
theorem kUf {l:Expr} {tl:TE3} (hl:PE3 X l tl):PI3 X tg l (iSeq tl):=by
 intro pins s τ G H R I h
 refine thn (hl pins s τ G H _ I h) fun v s1 w_=>w_.el fun x G1 H1 e1 i_ r_ ⟨xs,hx,q⟩=>i_.el fun σ I1 hs1 hg1=>r_.el fun a ra rv=> ?_
 obtain⟨p,vs,e,hq,r⟩:=jUe hg1 ra hx
 subst e
 cases rv
 have fpk:∀b∈[s1.heap.objs.size],FpOk X pins H1 b:=fun b hb=>by
  have e:b=s1.heap.objs.size:=by simpa using hb
  subst e
  exact I1.fpOk (Nat.le_refl _) (I1.hok.fresh (Nat.le_refl _))
 rcases hq with hq | hq
 ·obtain⟨its,rv,pl,hz⟩:=I1.list hq
  refine wpAny_pyIter_list pl.isList ?_
  refine⟨s1.heap.objs.size,[s1.heap.objs.size],_,_,xs,fun G'=>seqT G' x=some xs,G1,H1,rfl,e1,⟨σ,I1.kept (t':=s1.toks) fun b o e=>Heap.get?_push_of_some _ e,hs1,hg1⟩,kXz p _,⟨_,Heap.get?_push_size _ rfl,rfl,rfl⟩,fpk,?_,q⟩
  intro i H2 G2 e2 g2 st
  have ra2:=Rep.mono e2 _ ra
  have now:∃ws,SqL X.K H2 p ws/\Reps X.K H2 xs ws:=by
   cases x with
   | scr ys=>cases hx;obtain⟨p',ws,ep,h1,h2⟩:=(show ∃p' ws,V.ref p= .ref p'/\FrL X.K H2 p' ws/\Reps X.K H2 xs ws from ra2);cases ep;exact⟨ws,h1.sq,h2⟩
   | ref p'=>cases (show V.ref p= .ref p' from ra);obtain⟨ws,h1,h2⟩:=g2.lst (jXf st);exact⟨ws,.of h1,h2⟩
   | tup ys=>
    obtain⟨p',ws,ep,h1,h2⟩:=(show ∃p' ws,V.ref p= .ref p'/\H1 p'=some (.tup ws)/\Reps X.K H1 ys ws from ra)
    cases ep
    exfalso
    obtain⟨its',_,pl',_⟩:=I1.tuple (.of h1)
    obtain⟨o,n,ho,hc,_⟩:=pl
    obtain⟨o',ho',hc',_⟩:=pl'
    rw[ho] at ho';cases ho'
    rw[hc] at hc';exact absurd hc' (by decide)
   | non=>cases hx
   | bl _=>cases hx
   | int _=>cases hx
   | str _=>cases hx
   | ty _=>cases hx
  obtain⟨ws,h1,h2⟩:=now
  have hlen:=h2.length
  refine⟨fun hi=> ?_,fun hi=>⟨ws,h1,by omega⟩,fun _ y H' ⟨eH,hy⟩=> ?_⟩
  ·exact⟨ws,ws[i]'(by omega),h1,by simp[hlen▸hi]⟩
  ·subst eH
   obtain⟨t,ht,rt⟩:=h2.get' (hy ws h1)
   exact⟨.refl _,g2,t,ht,rt⟩
 ·obtain⟨its,rv,pl,hz⟩:=I1.tuple hq
  refine wpAny_pyIter_tuple (show s1.heap.IsTuple p its.toArray from pl) ?_
  refine⟨s1.heap.objs.size,[s1.heap.objs.size],_,_,xs,fun G'=>seqT G' x=some xs,G1,H1,rfl,e1,⟨σ,I1.kept (t':=s1.toks) fun b o e=>Heap.get?_push_of_some _ e,hs1,hg1⟩,kV0 p _,⟨_,Heap.get?_push_size _ rfl,rfl,rfl⟩,fpk,?_,q⟩
  intro i H2 G2 e2 g2 st
  have ra2:=Rep.mono e2 _ ra
  have now:∃ws,H2 p=some (.tup ws)/\Reps X.K H2 xs ws:=by
   cases x with
   | tup ys=>cases hx;obtain⟨p',ws,ep,h1,h2⟩:=(show ∃p' ws,V.ref p= .ref p'/\H2 p'=some (.tup ws)/\Reps X.K H2 xs ws from ra2);cases ep;exact⟨ws,h1,h2⟩
   | scr ys=>
    obtain⟨p',ws,ep,h1,h2⟩:=(show ∃p' ws,V.ref p= .ref p'/\FrL X.K H1 p' ws/\Reps X.K H1 ys ws from ra)
    cases ep
    exfalso
    obtain⟨its',_,pl',_⟩:=I1.list h1.sq
    obtain⟨o,n,ho,hc,_⟩:=pl'
    obtain⟨o',ho',hc',_⟩:=pl
    rw[ho] at ho';cases ho'
    rw[hc] at hc';exact absurd hc' (by decide)
   | ref p'=>
    cases (show V.ref p= .ref p' from ra)
    obtain⟨ws,h1,h2⟩:=hg1.lst (jXf hx)
    exfalso
    obtain⟨its',_,pl',_⟩:=I1.list (.of h1)
    obtain⟨o,n,ho,hc,_⟩:=pl'
    obtain⟨o',ho',hc',_⟩:=pl
    rw[ho] at ho';cases ho'
    rw[hc] at hc';exact absurd hc' (by decide)
   | non=>cases hx
   | bl _=>cases hx
   | int _=>cases hx
   | str _=>cases hx
   | ty _=>cases hx
  obtain⟨ws,h1,h2⟩:=now
  have hlen:=h2.length
  refine⟨fun hi=> ?_,fun hi=>⟨ws,.of h1,by omega⟩,fun _ y H' ⟨eH,hy⟩=> ?_⟩
  ·exact⟨ws,ws[i]'(by omega),.of h1,by simp[hlen▸hi]⟩
  ·subst eH
   obtain⟨t,ht,rt⟩:=h2.get' (hy ws (.of h1))
   exact⟨.refl _,g2,t,ht,rt⟩
def rngT (lo:Int) (n:Nat):List T:=(List.range n).map fun (k:Nat)=>T.int (lo+k)
def jQh (ta:TA3):TI3:=fun τ G R=>ta τ G fun vs G1=>∃j:Int,vs=[.int j]/\ -(2^62)<=j/\j<2^62/\R (rngT 0 j.toNat) (fun _=>True) G1
def kXi (ta:TA3):TI3:=fun τ G R=>ta τ G fun vs G1=>∃i j:Int,vs=[.int i,.int j]/\(-(2^62)<=i/\i<2^62/\ -(2^62)<=j/\j<2^62)/\R (rngT i (j-i).toNat) (fun _=>True) G1
theorem kK3 {K:PySem.W.Frag} {H:Hp} (lo:Int) (n:Nat):Items K H (Itr lo n) (rngT lo n) fun _=>True:=by
 intro i H' G e g _
 have hl:(rngT lo n).length=n:=by simp[rngT]
 refine⟨fun h=>by rw[hl] at h;exact h,fun h=>by rw[hl] at h;exact h,fun hi x H2 ⟨eH,ex⟩=> ?_⟩
 rw[hl] at hi
 subst eH;subst ex
 exact⟨.refl _,g,.int (lo+i),by simp[rngT,hi],rfl⟩
theorem jQf {a:Expr} {ta:TA3} {p:Pos} (hg:Gl X "range") (hm:X.mg "range"=none) (ha:PA3 X [a] ta) (hs:starEach [a] X.env=[(false,eval a X.env)]:=by rfl):PI3 X tg (.Call (.Name "range" p) [a] [] pos) (jQh ta):=by
 intro pins s τ G H R I h
 obtain⟨σ,I0,hs0,hg0⟩:=id I
 refine Call_ (jQ1 I0 hg hm boot_range (PyProof.Rows.callWith_type1 (thn (ha pos pins s τ G H _ I h) fun us s1 w_=>w_.el fun xs G1 H1 e1 i_ r_ q1=>i_.el fun σ I1 hs1 hg1=>r_.el fun as ras rvs=> ?_) hs rfl))
 obtain⟨j,e,q1,q2,q⟩:=q1
 subst e
 obtain⟨v,rfl,rv⟩:=jVh ras
 cases (show v= .int j from rv)
 obtain⟨u,rfl,ru⟩:=rvs.one
 obtain⟨t,rfl⟩:=ru
 refine call_range_1 (thn (kU8 (tg:=tg) (R:=fun J H'=>J=Itr 0 j.toNat/\H'=H1) I1 (by omega) (by omega) q1 q2 ⟨by simp,rfl⟩) fun itv s2 z=> ?_)
 obtain⟨it,fp,tn,J,H',ei,I2,T0,st,fk,eJ,eH⟩:=z
 subst eJ;subst eH
 exact⟨it,fp,tn,_,rngT 0 j.toNat,fun _=>True,G1,H',ei,e1,⟨σ,I2,hs1,hg1⟩,T0,st,fk,kK3 0 j.toNat,q⟩
theorem kVi {a b:Expr} {ta:TA3} {p:Pos} (hg:Gl X "range") (hm:X.mg "range"=none) (ha:PA3 X [a,b] ta) (hs:starEach [a,b] X.env=[(false,eval a X.env),(false,eval b X.env)]:=by rfl) (hs2:starEach [b] X.env=[(false,eval b X.env)]:=by rfl):
  PI3 X tg (.Call (.Name "range" p) [a,b] [] pos) (kXi ta):=by
 intro pins s τ G H R I h
 obtain⟨σ,I0,hs0,hg0⟩:=id I
 refine Call_ (jQ1 I0 hg hm boot_range (PyProof.Rows.callWith_type1 (thn (ha pos pins s τ G H _ I h) fun us s1 w_=>w_.el fun xs G1 H1 e1 i_ r_ q1=>i_.el fun σ I1 hs1 hg1=>r_.el fun as ras rvs=> ?_) (by rw[hs,hs2]) (by rw[hs2];rfl)))
 obtain⟨i,j,e,⟨q1,q2,q3,q4⟩,q⟩:=q1
 subst e
 obtain⟨v,w,rfl,rv,rw'⟩:=kKo ras
 cases (show v= .int i from rv);cases (show w= .int j from rw')
 obtain⟨u,u',rfl,ru,ru'⟩:=rvs.two
 obtain⟨t,rfl⟩:=ru
 obtain⟨t',rfl⟩:=ru'
 refine call_range_2 (thn (kU8 (tg:=tg) (R:=fun J H'=>J=Itr i (j-i).toNat/\H'=H1) I1 q1 q2 q3 q4 ⟨rfl,rfl⟩) fun itv s2 z=> ?_)
 obtain⟨it,fp,tn,J,H',ei,I2,T0,st,fk,eJ,eH⟩:=z
 subst eJ;subst eH
 exact⟨it,fp,tn,_,rngT i (j-i).toNat,fun _=>True,G1,H',ei,e1,⟨σ,I2,hs1,hg1⟩,T0,st,fk,kK3 i (j-i).toNat,q⟩
end
abbrev Sp3:=List T->Gp->VK3->Prop
def dn (K:PySem.W.Frag) (n:Nat) (sp:Sp3):Sp:=fun vs H Q _=>vs.length=n/\∃xs G,Reps K H xs vs/\GRel K H G/\sp xs G fun t G'=>∀v H',Ext H H'->GRel K H' G'->Rep K H' t v->Q v H'
noncomputable def Fn3 (P:Program) (w:World) (K:PySem.W.Frag) (mg:Str->Option Value) (base:Heap) (k:Nat) (f:Addr) (fd:FuncData) (ps:List Str) (sp:Sp3):Prop:=FnOk P w K mg base CX0 k f fd ps (dn K ps.length sp)
def jJt (sp:Sp3) (t:TA3):TE3:=fun τ G Q=>t τ G fun xs G1=>sp xs G1 Q
def Mono (sp:Sp3):Prop:=∀xs G Q Q',(∀t G',Q t G'->Q' t G')->sp xs G Q->sp xs G Q'
def jKj (N:List Str) (xs:List T):St3:=xs.map some++List.replicate (N.length-xs.length) none
theorem kKn {K:PySem.W.Frag} {H:Hp} {N:List Str} {xs:List T} {vs:List V} (r:Reps K H xs vs):SRel K H (start N vs) (jKj N xs):=by
 have hl:=r.length
 refine⟨by simp[L2.start,jKj,hl],fun i t h=> ?_⟩
 unfold jKj at h
 unfold L2.start
 by_cases hi:i<xs.length
 ·rw[List.getElem?_append_left (by simpa using hi),List.getElem?_map] at h
  cases e:xs[i]? with
  | none=>rw[e] at h;cases h
  | some x=>
   rw[e] at h;cases h
   obtain⟨v,hv,rv⟩:=r.get e
   exact⟨v,by rw[List.getElem?_append_left (by simp;omega),List.getElem?_map,hv];rfl,rv⟩
 ·rw[List.getElem?_append_right (by simpa using hi),List.getElem?_replicate] at h
  split at h<;>cases h
theorem fn3 {P:Program} {w:World} {K:PySem.W.Frag} {mg:Str->Option Value} {base:Heap} {x qual:Str} {st:Stmt} {f:Addr} {fd:FuncData} {N ps:List Str} {k:Nat} {sp:Sp3} (F:Fun K x qual st f fd) (S:FnScope N ps (jJl st))
  (hbody:∀(cdv:Value) (A:Around) (outer:List Env) (s:Shared) (H:Hp) (E:XK),Room k (A.deeper (envOfC qual (jJl st) s.heap.objs.size f cdv))->
   ∃t,PSs3 (cxOf CX0 P w K mg base N qual (jJl st) f cdv A outer s H E).nox (jKi st) t/\∀xs G Q,sp xs G Q->t {nx:=fun _ G'=>Q .non G',rt:=Q} (jKj N xs) G):Fn3 P w K mg base (k+1) f fd ps sp:=by
 refine Fun.ok (sp:=dn K ps.length sp) F S (fun vs H Q E h=>h.1) fun cdv A outer s H vs Q E hr hsp=> ?_
 obtain⟨t,ht,hq⟩:=hbody cdv A outer s H E hr
 obtain⟨hl,xs,G,rs,hg,hsp⟩:=hsp
 refine⟨fun D σ H1=>D.nx=(fun _ H'=>Q .non H')/\D.rt=Q/\σ=L2.start N vs/\H1=H,?_,rfl,rfl,rfl,rfl⟩
 rintro pins s1 σ1 H1 D I ⟨e1,e2,e3,e4⟩
 subst e3;subst e4
 have I3:Inv3 (cxOf CX0 P w K mg base N qual (jJl st) f cdv A outer s H1 E).nox pins (jKj N xs) G H1 s1:=⟨_,I,kKn rs,hg⟩
 refine thn (ht pins s1 _ G H1 _ I3 (hq xs G _ hsp)) fun fl s2 z=> ?_
 cases fl with
 | next=>obtain⟨τ',G',H',e',⟨σ',I',a,b⟩,q⟩:=z;exact⟨σ',H',I',by rw[e1];exact q .non H' e' b rfl⟩
 | brk=>obtain⟨τ',G',H',e',_,q⟩:=z;exact q.elim
 | cont=>obtain⟨τ',G',H',e',_,q⟩:=z;exact q.elim
 | ret u=>obtain⟨x',τ',G',H',e',⟨σ',I',a,b⟩,⟨v,rv,ru⟩,q⟩:=z;exact⟨v,σ',H',I',ru,by rw[e2];exact q v H' e' b rv⟩
mutual
noncomputable def dep:T->Nat
 | .tup xs=>deps xs+1
 | _=>0
noncomputable def deps:List T->Nat
 | []=>0
 | x::xs=>max (dep x) (deps xs)
end
mutual
noncomputable def tree:T->Bool
 | .tup xs=>jK7 xs
 | .ref _=>false
 | .scr _=>false
 | .ty _=>false
 | .non=>true
 | .bl _=>true
 | .int _=>true
 | .str _=>true
noncomputable def jK7:List T->Bool
 | []=>true
 | x::xs=>tree x&&jK7 xs
end
mutual
noncomputable def eqT:T->T->Bool
 | .non,.non=>true
 | .bl a,.bl b=>a == b
 | .bl a,.int b=>(if a then 1 else 0) == b
 | .int a,.bl b=>a == (if b then 1 else 0)
 | .int a,.int b=>a == b
 | .str a,.str b=>a == b
 | .tup xs,.tup ys=>eqTs xs ys
 | _,_=>false
noncomputable def eqTs:List T->List T->Bool
 | [],[]=>true
 | x::xs,y::ys=>eqT x y&&eqTs xs ys
 | [],_::_=>false
 | _::_,[]=>false
end
mutual
theorem qQi {K:PySem.W.Frag} {H:Hp}:∀(x y:T) {a:V},tree x=true->tree y=true->Rep K H x a->Rep K H y a->eqT x y=true
 | .non,y,a,hx,hy,r,q=>by
  cases (show a= .non from r)
  cases y<;>first | rfl | (exact absurd (show false=true from hy) Bool.false_ne_true) | (cases (show V.non=_ from q)) | (obtain⟨_,_,e,_⟩:=(show ∃c vs,V.non= .ref c/\_ from q);cases e)
 | .bl b,y,a,hx,hy,r,q=>by
  cases (show a= .bl b from r)
  cases y with
  | bl c=>cases (show V.bl b=V.bl c from q);simp[eqT]
  | tup ys=>obtain⟨_,_,e,_⟩:=(show ∃c vs,V.bl b= .ref c/\_ from q);cases e
  | non=>cases (show V.bl b= .non from q)
  | int c=>cases (show V.bl b= .int c from q)
  | str c=>cases (show V.bl b= .str c from q)
  | _=>exact absurd (show false=true from hy) Bool.false_ne_true
 | .int b,y,a,hx,hy,r,q=>by
  cases (show a= .int b from r)
  cases y with
  | int c=>cases (show V.int b=V.int c from q);simp[eqT]
  | tup ys=>obtain⟨_,_,e,_⟩:=(show ∃c vs,V.int b= .ref c/\_ from q);cases e
  | non=>cases (show V.int b= .non from q)
  | bl c=>cases (show V.int b= .bl c from q)
  | str c=>cases (show V.int b= .str c from q)
  | _=>exact absurd (show false=true from hy) Bool.false_ne_true
 | .str b,y,a,hx,hy,r,q=>by
  cases (show a= .str b from r)
  cases y with
  | str c=>cases (show V.str b=V.str c from q);simp[eqT]
  | tup ys=>obtain⟨_,_,e,_⟩:=(show ∃c vs,V.str b= .ref c/\_ from q);cases e
  | non=>cases (show V.str b= .non from q)
  | bl c=>cases (show V.str b= .bl c from q)
  | int c=>cases (show V.str b= .int c from q)
  | _=>exact absurd (show false=true from hy) Bool.false_ne_true
 | .tup xs,y,a,hx,hy,r,q=>by
  obtain⟨p,vs,e,h1,h2⟩:=(show ∃p vs,a= .ref p/\H p=some (.tup vs)/\Reps K H xs vs from r)
  subst e
  cases y with
  | tup ys=>
   obtain⟨p',vs',e',h1',h2'⟩:=(show ∃p' vs',V.ref p= .ref p'/\H p'=some (.tup vs')/\Reps K H ys vs' from q)
   cases e'
   rw[h1] at h1';cases h1'
   exact kK7 xs ys (show jK7 xs=true from hx) (show jK7 ys=true from hy) h2 h2'
  | non=>cases (show V.ref p= .non from q)
  | bl c=>cases (show V.ref p= .bl c from q)
  | int c=>cases (show V.ref p= .int c from q)
  | str c=>cases (show V.ref p= .str c from q)
  | _=>exact absurd (show false=true from hy) Bool.false_ne_true
 | .ref _,_,_,hx,_,_,_=>absurd (show false=true from hx) Bool.false_ne_true
 | .scr _,_,_,hx,_,_,_=>absurd (show false=true from hx) Bool.false_ne_true
 | .ty _,_,_,hx,_,_,_=>absurd (show false=true from hx) Bool.false_ne_true
theorem kK7 {K:PySem.W.Frag} {H:Hp}:∀(xs ys:List T) {vs:List V},jK7 xs=true->jK7 ys=true->Reps K H xs vs->Reps K H ys vs->eqTs xs ys=true
 | [],ys,_,_,_,r,q=>by
  cases r
  cases ys with
  | nil=>rfl
  | cons y ys=>obtain⟨_,_,e,_⟩:=q;cases e
 | x::xs,ys,_,hx,hy,⟨v,ws,e,r1,r2⟩,q=>by
  subst e
  cases ys with
  | nil=>cases q
  | cons y ys=>
   obtain⟨v',ws',e',q1,q2⟩:=q
   cases e'
   have hx':tree x=true/\jK7 xs=true:=by simpa[jK7] using hx
   have hy':tree y=true/\jK7 ys=true:=by simpa[jK7] using hy
   show (eqT x y&&eqTs xs ys)=true
   rw[qQi x y hx'.1 hy'.1 r1 q1,kK7 xs ys hx'.2 hy'.2 r2 q2]
   rfl
end
section
variable {X:Cx}
def rSub:R3:=rI0 fun i j=> .int (i-j)
def rMod:R3:=rI (fun _ j=>0<j) fun i j=> .int (i%j)
def kJ0:R3:=rI CDiv fun i j=> .int (i / j)
def rPow:R3:=rI CPow fun i j=> .int (i^j.toNat)
def rLt:R3:=rI0 fun i j=> .bl (decide (i<j))
def rGt:R3:=rI0 fun i j=> .bl (decide (j<i))
def rGe:R3:=rI0 fun i j=> .bl (decide (j<=i))
def rIsN:R3:=fun x y G Q=>y= .non/\Q (.bl (qVl x)) G
def rNotN:R3:=fun x y G Q=>y= .non/\Q (.bl (!qVl x)) G
def qKm:R3:=fun x y G Q=>∃xs ys,x= .tup xs/\y= .tup ys/\xs≠[]/\xs.length+ys.length<=sizeLine/\Q (.tup (xs++ys)) G
theorem o_catT:Op3 X (binaryOp .Add) qKm:=
 Op3.of qU0 fun H G x y a b Q hg ra rb ⟨xs,ys,ex,ey,hx,hz,q⟩=>by
  subst ex;subst ey
  obtain⟨p,vs,e1,h1,h2⟩:=(show ∃p vs,a= .ref p/\H p=some (.tup vs)/\Reps X.K H xs vs from ra)
  obtain⟨p',ws,e2,h3,h4⟩:=(show ∃p vs,b= .ref p/\H p=some (.tup vs)/\Reps X.K H ys vs from rb)
  subst e1;subst e2
  have l1:=h2.length
  have l2:=h4.length
  refine⟨p,p',vs,ws,rfl,rfl,.of h1,.of h3,fun z=>hx ?_,by omega,fun z=> ?_,fun z l hl=> ?_⟩
  ·rw[z] at l1;exact List.length_eq_zero_iff.mp l1
  ·rw[z] at l2
   have:ys=[]:=List.length_eq_zero_iff.mp l2
   subst this
   exact⟨.tup (xs++[]),G,.refl H,hg,by rw[List.append_nil];exact ra,q⟩
  ·exact⟨.tup (xs++ys),G,.upd (.none hl),hg.tupNew hl,Rep.tupNew (h2.append h4) hl,q⟩
def rAddI:R3:=rI0 fun i j=> .int (i+j)
def rAddA:R3:=fun x y G Q=>rAddI x y G Q\/rCat x y G Q\/qKm x y G Q
theorem o_addA:Op3 X (binaryOp .Add) rAddA:=o_add.or (o_cat.or o_catT)
def rMulI:R3:=rI CMul fun i j=> .int (i*j)
def rMulA:R3:=fun x y G Q=>rMulI x y G Q\/rRep x y G Q
theorem o_mulA:Op3 X (binaryOp .Mult) rMulA:=o_mul.or o_rep
def rNeg:T->Gp->VK3->Prop:=fun x G Q=>∃i,x= .int i/\Q (.int (-i)) G
theorem jJr (b:Expr) {op:CmpOp} (h:behindInMarks op b=false:=by first | exact nomark _ | with_unfolding_all rfl):behindInMarks op b=false:=h
variable {a b c:Expr} {ta tb tc:TE3} {pos:Pos}
theorem qUj {op op':CmpOp} {r r':R3} (ho:Op3 X (compareOp op) r) (ho':Op3 X (compareOp op') r') (ha:PE3 X a ta) (hb:PE3 X b tb) (hc:PE3 X c tc)
  (hm:lastMarks [op,op'] [b,c]=false:=by with_unfolding_all rfl):PT3 X (.Compare a [op,op'] [b,c] pos) (jJw (kX4 r r' ta tb tc)):=by
 intro pins s τ G H Q I h
 refine isTrue_chain (thn (ha pins s τ G H _ I h) fun v s1 w_=>w_.el fun x G1 H1 e1 I1 r1 q1=>test_link (thn (hb pins s1 τ G1 H1 _ I1 q1) fun u s2 ⟨y,G2,H2,e2,I2,r2,q2⟩=>
  thn (ho pins s2 τ G2 H2 x y v u _ I2 (r1.mono e2) r2 q2) fun d s3 w_=>w_.el fun z G3 H3 e3 I3 r_ ⟨k,e,q3⟩=>r_.el fun v' rv' ru'=> ?_)) hm
 subst e
 cases (show v'= .bl k from rv');cases ru'
 refine wpAny_truthy_bool ?_
 cases k with
 | false=>
  obtain⟨k',e',q'⟩:=q3
  cases e'
  exact ite_ff ⟨G3,H3,(e1.trans e2).trans e3,I3,q'⟩
 | true=>
  refine ite_tt (test_last (thn (hc pins s3 τ G3 H3 _ I3 q3) fun w' s4 w_=>w_.el fun z' G4 H4 e4 I4 r4 q4=>thn (ho' pins s4 τ G4 H4 y z' u w' _ I4 (r2.mono (e3.trans e4)) r4 q4) fun d' s5 w_=>w_.el fun z2 G5 H5 e5 I5 r_ ⟨k2,e2',q5⟩=>r_.el fun v2 rv2 ru2=> ?_))
  subst e2'
  cases (show v2= .bl k2 from rv2);cases ru2
  exact wpAny_truthy_bool ⟨G5,H5,(((e1.trans e2).trans e3).trans e4).trans e5,I5,q5⟩
mutual
noncomputable def td:T->PyData
 | .tup xs=> .tuple (tds xs)
 | .int i=> .int i
 | .bl b=> .bool b
 | .str x=> .str x
 | .non=> .none
 | .ref _=> .none
 | .scr _=> .none
 | .ty _=> .none
noncomputable def tds:List T->List PyData
 | []=>[]
 | x::xs=>td x::tds xs
end
def eqOk (x:T):Bool:=tree x&&(td x).canLay0&&decide ((td x).depth<=50)
def jXc (xs:List T):Bool:=jK7 xs&&PyData.canLayAll0 (tds xs)&&decide ((PyData.list (tds xs)).depth<=50)
noncomputable def eqG (G:Gp) (x y:T):Option Bool:=match x,y with
 | .ref p,.ref q=>match G p,G q with
  | some (.lst xs),some (.lst ys)=>if jXc xs=true/\jXc ys=true then some (eqTs xs ys) else none
  | _,_=>none
 | _,_=>if eqOk x=true/\eqOk y=true then some (eqT x y) else none
def rEqA:R3:=fun x y G Q=>∃b,eqG G x y=some b/\Q (.bl b) G
def rNeA:R3:=fun x y G Q=>∃b,eqG G x y=some b/\Q (.bl (!b)) G
noncomputable def truT (G:Gp):T->Option Bool
 | .non=>some false
 | .bl b=>some b
 | .int i=>some (i != 0)
 | .tup xs=>some (!xs.isEmpty)
 | .ref p=>match G p with
  | some (.lst xs)=>some (!xs.isEmpty)
  | some (.dck kvs)=>some (!kvs.isEmpty)
  | _=>none
 | _=>none
def rTru:T->Gp->(Bool->Gp->Prop)->Prop:=fun x G Q=>∃b,truT G x=some b/\Q b G
end
section
variable {X:Cx} {pins:List (Addr×Obj)} {σ:L2.St} {H:Hp} {s:Shared} {h':Heap}
theorem kXx {t':Nat} {fp:List Addr} (I:Inv X pins σ H s) (k:∀b o,b∉fp->s.heap.get? b=some o->h'.get? b=some o) (hf:∀b∈fp,FpOk X pins H b):Inv X pins σ H {s with heap:=h',toks:=t'}:=by
 have nit:∀b u,H b=some u->b∉fp:=fun b u e z=>by rw[(hf b z).1] at e;cases e
 refine I.step (g':=s.gens) (d':=s.drawn) (ch:=fp) (fun b hb=>⟨(hf b hb).2.2.2.1,(hf b hb).2.1,(hf b hb).2.2.2.2.1,(hf b hb).2.2.2.2.2⟩) (fun b o _ _ hc e _=>k b o hc e) (fun b o _ _ hc e _=>⟨o.slots,k b o hc e⟩) (fun _ _ _ _ n=>n)
  (fun b o hc e=>⟨o,k b o hc e⟩) (fun _ _ e=>e) (fun _ _ _ e=>e) (fun b ps e=>⟨#[],by rw[e];simp⟩) (fun m hm=> ?_) (fun b u e=> ?_) I.bare
 ·obtain⟨o,es,ep,ho,r⟩:=hm
  exact⟨o,es,ep,k _ o (fun z=>(hf _ z).2.1 rfl) ho,r⟩
 ·refine (I.hok b u e).stay (fun c v hc q=>k c v ?_ q) (fun _ q=>q) fun _ _ q=>q
  rcases hc with z | z
  ·rw[z];exact nit b u e
  ·exact nit c _ z
theorem kKl {t':Nat} {fp:List Addr} {p:Addr} {vs:List V} {us:List Value} (I:Inv X pins σ H s) (k:∀b o,b∉fp->s.heap.get? b=some o->h'.get? b=some o) (hf:∀b∈fp,FpOk X pins H b)
  (hp:s.heap.objs.size<=p) (ht:TupD h' p us.toArray) (r:Vals vs us) (hz:vs.length<=sizeLine):Inv X pins σ (upd H p (.tup vs)) {s with heap:=h',toks:=t'}:=by
 have hn:H p=none:=I.hok.fresh hp
 have nit:∀b u,H b=some u->b∉fp:=fun b u e z=>by rw[(hf b z).1] at e;cases e
 have old:∀b o,s.heap.get? b=some o->b≠p:=fun b o e=>Nat.ne_of_lt (Nat.lt_of_lt_of_le (Heap.lt_size e) hp)
 have tr:∀b u,H b=some u->b≠p:=fun b u e z=>by rw[z,hn] at e;cases e
 refine I.step (g':=s.gens) (d':=s.drawn) (ch:=fp) (fun b hb=>⟨(hf b hb).2.2.2.1,(hf b hb).2.1,(hf b hb).2.2.2.2.1,(hf b hb).2.2.2.2.2⟩) (fun b o _ _ hc e _=>k b o hc e) (fun b o _ _ hc e _=>⟨o.slots,k b o hc e⟩) (fun b o _ e n=>by rw[jJz (old b o e)];exact n)
  (fun b o hc e=>⟨o,k b o hc e⟩) (fun b _ e=>by rw[jJz (tr b _ e)];exact e) (fun b _ _ e=>by rw[jJz (tr b _ e)];exact e) (fun b ps e=>⟨#[],by rw[jJz (tr b _ e),e];simp⟩) (fun m hm=> ?_) (fun b u e=> ?_) I.bare
 ·obtain⟨o,es,ep,ho,r⟩:=hm
  exact⟨o,es,ep,k _ o (fun z=>(hf _ z).2.1 rfl) ho,r⟩
 ·by_cases hb:b=p
  ·subst hb
   rw[jJ8] at e
   cases e
   exact⟨hz,us,r,ht⟩
  ·rw[jJz hb] at e
   refine (I.hok b u e).stay (fun c v hc q=>k c v ?_ q) (fun c q=>by rw[jJz (tr c _ q)];exact q) fun c _ q=>by rw[jJz (tr c _ q)];exact q
   rcases hc with z | z
   ·rw[z];exact nit b u e
   ·exact nit c _ z
end
noncomputable def Ite (K:PySem.W.Frag) (a:Addr):It:=
 ⟨fun i H=>∃xs x,SqL K H a xs/\xs[i]? =some x,fun i H x H'=>∃p y,H p=none/\x= .ref p/\(∀xs,SqL K H a xs->xs[i]? =some y)/\H'=upd H p (.tup [.int i,y]),fun i H=>∃xs,SqL K H a xs/\xs.length<=i⟩
theorem kX0 {P:Program} {w:World} {K:PySem.W.Frag} {elts:List Expr} {k:Nat} {pos:Pos} (a e it:Addr) (hei:e≠it):
  Turn P w K (.Tuple elts k pos) (Ite K a) [e,it] e (fun i h=>(∃old,IsEnum h e it i old)/\h.IsListIter it a i) where
 mem:=by simp
 obj:=fun i h ⟨⟨old,h1⟩,h2⟩ b hb=>by
  have hb':b=e\/b=it:=by simpa using hb
  rcases hb' with z | z
  ·subst z;exact⟨_,h1,fun v z=>nomatch (show Data.fields _=Data.cell v from z)⟩
  ·subst z
   obtain⟨o,e2,c,d⟩:=h2
   exact⟨o,e2,fun v z=>by rw[d] at z;cases z⟩
 keep:=fun i h h' ⟨⟨old,h1⟩,h2⟩ kp=>⟨⟨old,kp e (by simp) _ h1⟩,h2.at fun o q=>kp it (by simp) o q⟩
 item:=by
  rintro X hP hw hK hc i pins s σ H E I hf ⟨⟨old,he⟩,hit⟩ hg
  subst hP hw hK
  obtain⟨xs,x,hq,hx⟩:=hg
  obtain⟨its,rv,p,hz⟩:=I.list hq
  obtain⟨u,hu,ru⟩:=rv.get hx
  refine wpAny_pyNext_enum_item he hit p.isList (x:=u) (by simpa using hu) hei fun h1 ho hit1 hT hsz hk=> ?_
  refine⟨_,rfl,wpAny_letOwnedTupleGo_enum ho fun h2 he2 hs2=> ?_⟩
  have hel:e<s.heap.objs.size:=Heap.lt_size he
  have hp2:∀b o,b∉[e,it]->s.heap.get? b=some o->h2.get? b=some o:=fun b o hb q=>by
   have hb1:b≠e:=fun z=>hb (by simp[z])
   have hb2:b≠it:=fun z=>hb (by simp[z])
   exact (hs2.2 b hb1).trans (hk b o hb1 hb2 q)
  have hT2:h2.get? s.heap.objs.size=some {cls:= .type "tuple",data:= .seq #[.int i s.toks,u]}:=(hs2.2 _ (Nat.ne_of_gt hel)).trans hT
  have I2:=kKl (t':=s.toks+1) (h':=h2) (p:=s.heap.objs.size) (vs:=[.int i,x]) (us:=[.int i s.toks,u]) I hp2 hf (Nat.le_refl _) ⟨_,hT2,rfl,_,rfl,rfl⟩ (.cons ⟨_,rfl⟩ (.cons ru .nil)) (by show 2<=sizeLine;decide)
  refine⟨.ref s.heap.objs.size,_,I2,rfl,⟨_,x,I.hok.fresh (Nat.le_refl _),rfl,fun ys hy=>by rw[I.list_inj hy hq];exact hx,rfl⟩,⟨⟨u,by simpa using he2⟩,hit1.at fun o q=>(hs2.2 it hei.symm).trans q⟩,fun b hb=> ?_⟩
  have hbs:∃o,s.heap.get? b=some o:=by
   have hb':b=e\/b=it:=by simpa using hb
   rcases hb' with z | z
   ·subst z;exact⟨_,he⟩
   ·subst z;obtain⟨o,q,_⟩:=hit;exact⟨o,q⟩
  obtain⟨o,q⟩:=hbs
  rw[jJz (Nat.ne_of_lt (Heap.lt_size q))]
  exact (hf b hb).1
 done:=by
  rintro X hP hw hK hc i pins s σ H E I hf ⟨⟨old,he⟩,hit⟩ hg
  subst hP hw hK
  obtain⟨xs,hq,hx⟩:=hg
  obtain⟨its,rv,p,hz⟩:=I.list hq
  have hl:=rv.length
  exact wpAny_pyNext_enum_end (I.ok.hd hc) he hit p.isList (by simp;omega) fun h1 hx1=>⟨rfl,kXx (t':=s.toks) I (fun b o hb q=>hx1 b o (fun z=>hb (by simp[z])) q) hf⟩
 self:=fun _ _ _ _ _ ⟨⟨old,he⟩,_⟩ h=>wpAny_pyIter_enum he h
def numT (xs:List T):List T:=(List.range xs.length).map fun (i:Nat)=>T.tup [.int i,xs.getD i .non]
theorem jYh {xs:List T} {i:Nat} {x:T} (h:xs[i]? =some x):(numT xs)[i]? =some (.tup [.int i,x]):=by
 have hi:i<xs.length:=by
  rcases Nat.lt_or_ge i xs.length with z | z
  ·exact z
  ·rw[List.getElem?_eq_none z] at h;cases h
 have hx:xs[i]=x:=(List.getElem?_eq_some_iff.mp h).2
 simp[numT,hi,List.getD,hx]
theorem jKx {xs:List T}:(numT xs).length=xs.length:=by simp[numT]
def jUw (G:Gp):T->Option (List T)
 | .ref p=>asL (G p)
 | .scr xs=>some xs
 | _=>none
theorem jV7 {K:PySem.W.Frag} {H:Hp} {G:Gp} {x:T} {a:V} {xs:List T} (hg:GRel K H G) (r:Rep K H x a) (h:jUw G x=some xs):∃p vs,a= .ref p/\SqL K H p vs/\Reps K H xs vs:=by
 cases x with
 | scr ys=>cases h;obtain⟨p,vs,e,h1,h2⟩:=(show ∃p vs,a= .ref p/\FrL K H p vs/\Reps K H xs vs from r);exact⟨p,vs,e,h1.sq,h2⟩
 | ref p=>
  obtain⟨vs,h1,h2⟩:=hg.lst (jXf h)
  exact⟨p,vs,r,.of h1,h2⟩
 | tup _=>cases h
 | non=>cases h
 | bl _=>cases h
 | int _=>cases h
 | str _=>cases h
 | ty _=>cases h
def kJ7 (ta:TA3):TI3:=fun τ G R=>ta τ G fun vs G1=>∃x xs,vs=[x]/\jUw G1 x=some xs/\R (numT xs) (fun G'=>jUw G' x=some xs) G1
theorem kZj {X:Cx} {elts:List Expr} {k:Nat} {tpos pos p:Pos} {a:Expr} {ta:TA3} (hg:Gl X "enumerate") (hm:X.mg "enumerate"=none) (hv:bootBuiltins "enumerate"=some (.type "enumerate")) (ha:PA3 X [a] ta) (hs:starEach [a] X.env=[(false,eval a X.env)]:=by rfl):
  PI3 X (.Tuple elts k tpos) (.Call (.Name "enumerate" p) [a] [] pos) (kJ7 ta):=by
 intro pins s τ G H R I h
 obtain⟨σ0,I0,hs0,hg0⟩:=id I
 refine Call_ (jQ1 I0 hg hm hv (PyProof.Rows.callWith_type1 (thn (ha pos pins s τ G H _ I h) fun us s1 w_=>w_.el fun xs' G1 H1 e1 i_ r_ q1=>i_.el fun σ I1 hs1 hg1=>r_.el fun as ras rvs=> ?_) hs rfl))
 obtain⟨x,xs,e,hx,q⟩:=q1
 subst e
 obtain⟨v,rfl,rv⟩:=jVh ras
 obtain⟨u,rfl,ru⟩:=rvs.one
 obtain⟨pa,vs,rfl,hq,r⟩:=jV7 hg1 rv hx
 cases ru
 obtain⟨its,rvv,pl,hz⟩:=I1.list hq
 refine call_enumerate_list pl.isList fun h1 he hit hsz hk=> ?_
 have I2:Inv X pins σ H1 {s1 with heap:=h1}:=I1.kept (t':=s1.toks) hk
 refine wpAny_pyIter_enum (Q:=PIE3 X pins τ H (.Tuple elts k tpos) R) he ?_
 have fr:∀b∈[s1.heap.objs.size+1,s1.heap.objs.size],FpOk X pins H1 b:=fun b hb=>by
  have hb':b=s1.heap.objs.size+1\/b=s1.heap.objs.size:=by simpa using hb
  have hle:s1.heap.objs.size<=b:=by omega
  exact I1.fpOk hle (I1.hok.fresh hle)
 refine⟨s1.heap.objs.size+1,[s1.heap.objs.size+1,s1.heap.objs.size],_,_,numT xs,fun G'=>jUw G' x=some xs,G1,H1,rfl,e1,⟨σ,I2,hs1,hg1⟩,kX0 pa _ _ (Nat.succ_ne_self _),⟨⟨.none,he⟩,hit⟩,fr,?_,q⟩
 intro i H2 G2 e2 g2 st
 obtain⟨pb,ws,eb,h1,h2⟩:=jV7 g2 (Rep.mono e2 _ rv) st
 cases eb
 have hlen:=h2.length
 refine⟨fun hi=> ?_,fun hi=>⟨ws,h1,by rw[jKx] at hi;omega⟩,fun hi y H' ⟨pp,z,hn,ey,hy,eH⟩=> ?_⟩
 ·rw[jKx] at hi
  exact⟨ws,ws[i]'(by omega),h1,by simp[hlen▸hi]⟩
 ·subst ey;subst eH
  obtain⟨t,ht,rt⟩:=h2.get' (hy ws h1)
  exact⟨.upd (.none hn),g2.tupNew hn,_,jYh ht,Rep.tupNew ⟨_,_,rfl,rfl,_,_,rfl,rt,rfl⟩ hn⟩
noncomputable def clGo (env:Env):List (Str×NameKind)->List (Str×Addr)->Option (List (Str×Addr))
 | [],cs=>some cs
 | (n,k)::r,cs=>if (k == .free)=true then (match env.cells.lookup n with | some c=>clGo env r ((n,c)::cs) | none=>none) else clGo env r cs
theorem kJi {scope:Scope} {env:Env} {cl:List (Str×Addr)} (h:clGo env scope.names []=some cl):closureFor scope env=pure cl:=by
 unfold closureFor
 have go:∀(names:List (Str×NameKind)) (cs:List (Str×Addr)),clGo env names cs=some cl->
   (forIn names cs fun (x:Str×NameKind) (r:List (Str×Addr))=>(match x with | (nm,kd)=>if (kd == .free)=true then cellOf env nm >>= fun a=>pure (ForInStep.yield ((nm,a)::r)) else pure (ForInStep.yield r):Sem (ForInStep (List (Str×Addr)))))=pure cl:=by
  intro names
  induction names with
  | nil=>intro cs e;cases e;rfl
  | cons x r ih=>
   obtain⟨n,k⟩:=x
   intro cs e
   unfold clGo at e
   rw[List.forIn_cons]
   by_cases hk:(k == NameKind.free)=true
   ·rw[if_pos hk] at e
    cases hc:env.cells.lookup n with
    | none=>rw[hc] at e;cases e
    | some c=>
     rw[hc] at e
     have hco:cellOf env n=pure c:=by unfold cellOf;rw[hc]
     simp only[hk,if_true,hco,pure_bind]
     exact ih _ e
   ·rw[if_neg hk] at e
    simp only[hk,pure_bind,if_false,Bool.false_eq_true]
    exact ih _ e
 have:=go scope.names [] h
 simpa using this
theorem jYo {env:Env} {cl:List (Str×Addr)}:∀ {names:List (Str×NameKind)} {cs:List (Str×Addr)},clGo env names cs=some cl->(∀n c,cs.lookup n=some c->env.cells.lookup n=some c)->∀n c,cl.lookup n=some c->env.cells.lookup n=some c
 | [],cs,e,h=>by cases e;exact h
 | (n,k)::r,cs,e,h=>by
  unfold clGo at e
  by_cases hk:(k == NameKind.free)=true
  ·rw[if_pos hk] at e
   cases hc:env.cells.lookup n with
   | none=>rw[hc] at e;cases e
   | some c=>
    rw[hc] at e
    refine jYo e fun m d q=> ?_
    rw[List.lookup_cons] at q
    by_cases hm:(m == n)=true
    ·rw[hm] at q;cases q;rw[eq_of_beq hm];exact hc
    ·simp only[hm] at q;exact h m d q
  ·rw[if_neg hk] at e
   exact jYo e h
theorem jZp {env:Env} {cl:List (Str×Addr)} {m:Str}:∀ {names:List (Str×NameKind)} {cs:List (Str×Addr)},clGo env names cs=some cl->(∃c,cs.lookup m=some c)->∃c,cl.lookup m=some c
 | [],cs,e,h=>by cases e;exact h
 | (n,k)::r,cs,e,h=>by
  unfold clGo at e
  by_cases hk:(k == NameKind.free)=true
  ·rw[if_pos hk] at e
   cases hc:env.cells.lookup n with
   | none=>rw[hc] at e;cases e
   | some c=>
    rw[hc] at e
    refine jZp e ?_
    rw[List.lookup_cons]
    by_cases hm:(m == n)=true
    ·rw[hm];exact⟨_,rfl⟩
    ·simp only[hm];exact h
  ·rw[if_neg hk] at e
   exact jZp e h
theorem jYp {env:Env} {cl:List (Str×Addr)} {m:Str}:∀ {names:List (Str×NameKind)} {cs:List (Str×Addr)},clGo env names cs=some cl->names.lookup m=some .free->∃c,cl.lookup m=some c
 | [],cs,e,h=>by simp at h
 | (n,k)::r,cs,e,h=>by
  unfold clGo at e
  rw[List.lookup_cons] at h
  by_cases hm:(m == n)=true
  ·rw[hm] at h
   cases h
   rw[if_pos (show (NameKind.free == NameKind.free)=true from rfl)] at e
   cases hc:env.cells.lookup n with
   | none=>rw[hc] at e;cases e
   | some c=>
    rw[hc] at e
    refine jZp e ?_
    rw[List.lookup_cons,hm];exact⟨_,rfl⟩
  ·simp only[hm] at h
   by_cases hk:(k == NameKind.free)=true
   ·rw[if_pos hk] at e
    cases hc:env.cells.lookup n with
    | none=>rw[hc] at e;cases e
    | some c=>rw[hc] at e;exact jYp e h
   ·rw[if_neg hk] at e
    exact jYp e h
theorem jQx {env:Env} {x:Str}:∀ {names:List (Str×NameKind)},(∀y∈names,y.2≠ .cell)->
  ((names.map fun (n,k)=>if (k == NameKind.free&&env.scope.kind == .function&&env.kindOf n == some .cell) then (n,NameKind.cell) else (n,k)).lookup x=some .cell\/
    (names.map fun (n,k)=>if (k == NameKind.free&&env.scope.kind == .function&&env.kindOf n == some .cell) then (n,NameKind.cell) else (n,k)).lookup x=some .free)->names.lookup x=some .free
 | [],_,h=>by simp at h
 | (n,k)::r,hc,h=>by
  have ih:= @jQx env x r (fun y hy=>hc y (List.mem_cons_of_mem _ hy))
  have hk:=hc (n,k) List.mem_cons_self
  rw[List.map_cons] at h
  rw[List.lookup_cons]
  by_cases hx:(x == n)=true
  ·rw[hx]
   by_cases hf:(k == NameKind.free&&env.scope.kind == .function&&env.kindOf n == some .cell)=true
   ·have:(k == NameKind.free)=true:=by
     rw[Bool.and_eq_true,Bool.and_eq_true] at hf;exact hf.1.1
    rw[eq_of_beq this]
   ·simp only[hf,if_false,Bool.false_eq_true,List.lookup_cons,hx] at h
    rcases h with h | h
    ·cases h;exact absurd rfl hk
    ·cases h;rfl
  ·simp only[hx]
   refine ih ?_
   by_cases hf:(k == NameKind.free&&env.scope.kind == .function&&env.kindOf n == some .cell)=true
   ·simpa only[hf,if_true,List.lookup_cons,hx] using h
   ·simpa only[hf,if_false,Bool.false_eq_true,List.lookup_cons,hx] using h
theorem jUo {env:Env} {x:Str}:∀ {names:List (Str×NameKind)},
  (names.map fun (n,k)=>if (k == NameKind.free&&env.scope.kind == .function&&env.kindOf n == some .cell) then (n,NameKind.cell) else (n,k)).lookup x=some .local->names.lookup x=some .local
 | [],h=>by simp at h
 | (n,k)::r,h=>by
  have ih:= @jUo env x r
  rw[List.map_cons] at h
  rw[List.lookup_cons]
  by_cases hx:(x == n)=true
  ·rw[hx]
   by_cases hf:(k == NameKind.free&&env.scope.kind == .function&&env.kindOf n == some .cell)=true
   ·simp only[hf,if_true,List.lookup_cons,hx] at h;cases h
   ·simp only[hf,if_false,Bool.false_eq_true,List.lookup_cons,hx] at h;exact h
  ·simp only[hx]
   refine ih ?_
   by_cases hf:(k == NameKind.free&&env.scope.kind == .function&&env.kindOf n == some .cell)=true
   ·simpa only[hf,if_true,List.lookup_cons,hx] using h
   ·simpa only[hf,if_false,Bool.false_eq_true,List.lookup_cons,hx] using h
noncomputable def jUi (X:Cx) (scope:Scope) (cl:List (Str×Addr)) (C:Addr) (fp:List Addr) (s:Shared) (H:Hp):Cx:=
 {X with env:=compEnvC scope cl C X.env,s₀:=s,H₀:=H,outer:=X.stack,stack:=X.stack,ex:=fp,fn:=fun _=>false,pn:=[],xe:=fun _ _=>False}
structure CmpOk (X:Cx) (scope:Scope) (cl:List (Str×Addr)) (mask:List Bool):Prop where
 cl:clGo X.env scope.names []=some cl
 kind:scope.kind= .function
 nocell:(scope.names.all fun y=>y.2 != .cell)=true
 names:(scope.names.all fun y=>y.2 != .local||scope.names.lookup y.1 == some .local)=true
 vis:(scope.names.all fun y=>y.2 != .free||X.env.kindOf y.1 == some .cell||X.env.kindOf y.1 == some .free)=true
 len:mask.length=X.N.length
 mask:((X.N.zip mask).all fun p=>p.2||scope.names.lookup p.1 != some .local)=true
def msk {α:Type} (mask:List Bool) (τ:List (Option α)):List (Option α):=List.zipWith (fun b o=>if b=true then none else o) mask τ
theorem kQ8 {α:Type} {mask:List Bool} {τ:List (Option α)} {i:Nat} {t:α} (h:(msk mask τ)[i]? =some (some t)):mask[i]? =some false/\τ[i]? =some (some t):=by
 unfold msk at h
 rw[List.getElem?_zipWith] at h
 cases hm:mask[i]? with
 | none=>exact absurd (hm▸h) (by simp)
 | some b=>
  cases ht:τ[i]? with
  | none=>rw[hm,ht] at h;cases h
  | some o=>
   rw[hm,ht] at h
   cases b with
   | true=>simp at h
   | false=>simp at h;exact⟨rfl,by rw[h]⟩
theorem jXq {α:Type} {mask:List Bool} {τ:List (Option α)} (h:mask.length=τ.length):(msk mask τ).length=τ.length:=by
 unfold msk;rw[List.length_zipWith,h,Nat.min_self]
theorem kY7 {K:PySem.W.Frag} {H:Hp} {σ:L2.St} {τ:St3} {mask:List Bool} (h:SRel K H σ τ) (hl:mask.length=τ.length):SRel K H (msk mask σ) (msk mask τ):=by
 refine⟨by rw[jXq hl,jXq (hl.trans h.1.symm),h.1],fun i t q=> ?_⟩
 obtain⟨h1,h2⟩:=kQ8 q
 obtain⟨v,h3,h4⟩:=h.2 i t h2
 refine⟨v,?_,h4⟩
 unfold msk
 rw[List.getElem?_zipWith,h1,h3]
 simp
section
variable {X:Cx} {scope:Scope} {cl:List (Str×Addr)} {mask:List Bool}
theorem CmpOk.local (c:CmpOk X scope cl mask) {i:Nat} {x:Str} (h1:X.N[i]? =some x) (h2:mask[i]? =some false):scope.names.lookup x≠some .local:=by
 have h:=c.mask
 rw[List.all_eq_true] at h
 have hz:(X.N.zip mask)[i]? =some (x,false):=by rw[List.getElem?_zip_eq_some];exact⟨h1,h2⟩
 have:=h _ (List.mem_of_getElem? hz)
 simpa using this
theorem CmpOk.free (c:CmpOk X scope cl mask) {x:Str} (h:scope.names.lookup x=some .free):X.env.kindOf x=some .cell\/X.env.kindOf x=some .free:=by
 have hv:=c.vis
 rw[List.all_eq_true] at hv
 have:=hv (x,.free) (PySem.mem_of_lookup h)
 simpa using this
theorem CmpOk.nc (c:CmpOk X scope cl mask):∀y∈scope.names,y.2≠ .cell:=by
 have hv:=c.nocell
 rw[List.all_eq_true] at hv
 intro y hy
 simpa using hv y hy
theorem CmpOk.nm (c:CmpOk X scope cl mask):∀y∈scope.names,y.2= .local->scope.names.lookup y.1=some .local:=by
 have hv:=c.names
 rw[List.all_eq_true] at hv
 intro y hy e
 have:=hv y hy
 rw[e] at this
 simpa using this
theorem qJf (c:CmpOk X scope cl mask) {pins:List (Addr×Obj)} {σ:L2.St} {H:Hp} {s:Shared} {fp:List Addr} {h4:Heap} {tk:Nat} (I:Inv X pins σ H s) (hf:∀b∈fp,FpOk X pins H b) (ho:∀b∈fp,∃o,s.heap.get? b=some o)
  (hns:h4.Ns s.heap.objs.size fun _=>none) (hk:∀b o,s.heap.get? b=some o->h4.get? b=some o):
  Inv (jUi X scope cl s.heap.objs.size fp s H) [] (msk mask σ) H {s with heap:=h4,toks:=tk}:=by
 have sub:=jYo c.cl (by simp)
 have ok:(jUi X scope cl s.heap.objs.size fp s H).Ok:=by
  refine⟨I.ok.mod,c.kind,I.ok.glob,I.ok.blt,Nat.le_refl _,fun x y d h1 h2=>I.ok.inj x y d (sub _ _ h1) (sub _ _ h2),fun x hx=>jYp c.cl (jQx (env:=X.env) c.nc hx),fun x d hx=>absurd (show false=true from hx) Bool.false_ne_true,I.ok.hd,I.ok.gd,I.ok.frames,.inl rfl,
   fun b hb=> ?_,I.bs,Nat.le_trans I.ok.bsz I.sz,fun b o e hb=> ?_,fun b hb hz=> ?_,I.stack,I.stkFree⟩
  ·obtain⟨o,e⟩:=ho b hb
   exact⟨Nat.ne_of_lt (Heap.lt_size e),fun x d hd=>(hf b hb).2.2.2.2.1 x d (sub _ _ hd)⟩
  ·rcases (hf b hb).2.2.2.1 with z | z
   ·exact I.ok.noex b o e z
   ·exact absurd (Nat.lt_of_lt_of_le (Heap.lt_size e) I.ok.bsz) (Nat.not_lt.mpr z)
  ·rcases List.mem_cons.mp (I.stkSub b hz) with z | z
   ·exact (hf b hb).2.1 z
   ·exact (hf b hb).2.2.1 z
 refine⟨ok,rfl,I.bare,Un.kept hk,⟨_,hns,fun i x v h1 h2 h3=> ?_⟩,fun x d hd=> ?_,I.hok.fresh (Nat.le_refl _),fun x d hd=>I.freeC x d (sub _ _ hd),fun p hp=>absurd (show p∈([]:List (Addr×Obj)) from hp) (by simp),I.hok.kept hk,?_⟩
 ·obtain⟨m1,m2⟩:=kQ8 h2
  have nl:=c.local h1 m1
  have fr:scope.names.lookup x=some .free:=by
   rcases h3 with z | z | z
   ·exact absurd (jUo (env:=X.env) z) nl
   ·exact jQx (env:=X.env) c.nc (.inl z)
   ·exact jQx (env:=X.env) c.nc (.inr z)
  have hkk:=c.free fr
  obtain⟨m,hn,hl⟩:=I.loc
  have vis:Vis X.env.scope x:=by rcases hkk with z | z;exact .inr (.inl z);exact .inr (.inr z)
  obtain⟨u,ru,lk⟩:=hl i x v h1 m2 vis
  refine⟨u,ru,?_⟩
  rcases lk with ⟨z,_⟩ | ⟨_,d,hd,cd⟩
  ·exfalso;rcases hkk with q | q<;>(rw[z] at q;cases q)
  ·obtain⟨d',hd'⟩:=jYp c.cl fr
   have:d'=d:=by have:=sub _ _ hd';rw[hd] at this;exact (Option.some.inj this).symm
   subst this
   refine .inr ⟨?_,d',hd',cd.keeps hk⟩
   rcases h3 with z | z | z
   ·exact absurd (jUo (env:=X.env) z) nl
   ·exact .inl z
   ·exact .inr z
 ·obtain⟨v,hv⟩:=I.cell x d (sub _ _ hd)
  exact⟨v,hv.keeps hk⟩
 ·exact (jXq (c.len.trans I.len.symm)).trans I.len
theorem qV3 {pins:List (Addr×Obj)} {σ σ':L2.St} {H H':Hp} {s s':Shared} {fp:List Addr} {pl:List (Addr×Obj)} {C:Addr} (I:Inv X pins σ H s) (hf:∀b∈fp,FpOk X pins H b) (hC:s.heap.objs.size<=C)
  (J:Inv (jUi X scope cl C fp s H) pl σ' H' s') {h':Heap} (hb:Heap.SameBut C s'.heap h'):Inv X pins σ H' {s' with heap:=h'}:=by
 have ne:∀b o,s.heap.get? b=some o->b≠C:=fun b o e=>Nat.ne_of_lt (Nat.lt_of_lt_of_le (Heap.lt_size e) hC)
 have u:=J.base
 have hfree:H' C=none:=J.free
 have u':Un (frs X.stack) fp H H' s.heap h':=⟨fun b o e n hb' hx=>(hb.2 b (ne b o e)).trans (u.keep b o e n hb' hx),fun b o e n hb' hx=>let ⟨sl,z⟩:=u.slot b o e n hb' hx;⟨sl,(hb.2 b (ne b o e)).trans z⟩,
  u.free,fun b o e hx=>let ⟨o',z⟩:=u.there b o e hx;⟨o',(hb.2 b (ne b o e)).trans z⟩,u.tups,u.frzs,u.tbls⟩
 have hok:HOk X.prog X.w H' h':=fun b ob e=>(J.hok b ob e).stay (fun c w' hc q=>(hb.2 c (by
  rintro rfl
  rcases hc with rfl | hc
  ·rw[hfree] at e;cases e
  ·rw[hfree] at hc;cases hc)).trans q) (fun _ q=>q) fun _ _ q=>q
 exact I.call' (s':={s' with heap:=h'}) J.os u' hok J.bare fun b hb=>⟨(hf b hb).2.2.2.1,(hf b hb).2.1,(hf b hb).2.2.2.2.1,(hf b hb).2.2.2.2.2⟩
end
abbrev qJd (ifs:List Expr) (env:Env):Sem Bool:=forIn ifs true fun c b=>if b=true then isTrue c env (eval c env) >>= fun d=>pure (ForInStep.yield d) else pure (ForInStep.yield b)
noncomputable def qQw (M:Model) (A:Around) (elt tg:Expr) (ifs:List Expr) (it acc:Value) (env:Env) (stop more:Shared->Prop):Option Value->Shared->Prop
 | none=>stop
 | some v=>fun z=>wpAny M A (letOwnedTupleGo tg it v) (fun _ z1=>wpAny M A (assign tg env v) (fun _ z2=>wpAny M A (qJd ifs env) (fun ok z3=>if ok=true then wpAny M A (eval elt env) (fun x z4=>wpAny M A (call (.builtin "list.append") [acc,x]) (fun _=>more) (fun _ _=>False) z4) (fun _ _=>False) z3 else more z3) (fun _ _=>False) z2) (fun _ _=>False) z1) (fun _ _=>False) z
theorem qJe {P:Program} {w:World} {A:Around} {R:Result->Shared->Prop} {s:Shared} {elt tg iter:Expr} {ifs:List Expr} {scope:Scope} {pos:Pos} {it acc:Value} {env:Env} (I:Nat->Shared->Prop)
  (turn:∀k z,I k z->wpAny (model P w) A (pyNext it) (qQw (model P w) A elt tg ifs it acc env (R (.ok .next)) fun z'=>∃m,m<k/\I m z') (fun _ _=>False) z) (n:Nat) (h:I n s):codeAny (model P w) A (.compLoop (.ListComp elt [⟨tg,iter,ifs,0⟩] scope pos) 0 it acc env) R s:=by
 refine codeAny_loop rfl I (fun k z hz=>(show wpAny _ A ((compTurn (.ListComp elt [⟨tg,iter,ifs,0⟩] scope pos) 0 it acc env).onRaise _) _ _ z from wpAny_noted ?_)) n h
 rw[compTurn_list]
 refine wpAny_bind (wpAny_standAt (wpAny_bind (wpAny_mono (turn k z hz) (fun r z1 h1=> ?_) fun _ _ e=>e.elim)))
 cases r with
 | none=>exact wpAny_pure h1
 | some v=>
  refine wpAny_bind (wpAny_mono h1 (fun _ z2 h2=>wpAny_bind (wpAny_mono h2 (fun _ z3 h3=>wpAny_bind (wpAny_mono h3 (fun ok z4 h4=> ?_) fun _ _ e=>e.elim)) fun _ _ e=>e.elim)) fun _ _ e=>e.elim)
  by_cases hok:ok=true
  ·subst hok
   exact wpAny_bind (wpAny_bind (wpAny_mono h4 (fun x z5 h5=>wpAny_bind (wpAny_mono h5 (fun _ z6 h6=>wpAny_pure (wpAny_pure ⟨rfl,h6⟩)) fun _ _ e=>e.elim)) fun _ _ e=>e.elim))
  ·obtain rfl:ok=false:=by simpa using hok
   exact wpAny_pure ⟨rfl,h4⟩
noncomputable def PIf3 (X:Cx) (ifs:List Expr) (t:TT3):Prop:=∀(pins:List (Addr×Obj)) (s:Shared) (τ:St3) (G:Gp) (H:Hp) (Q:Bool->Gp->Prop),Inv3 X pins τ G H s->t τ G Q->
 wpAny (model X.prog X.w) X.A (forIn ifs true fun c r=>if r=true then do let ok <-isTrue c X.env (eval c X.env);pure (ForInStep.yield ok) else pure (ForInStep.yield r)) (TP3 X pins τ H Q) X.xe s
def jUy:TT3:=fun _ G Q=>Q true G
theorem jXb {X:Cx}:PIf3 X [] jUy:=fun _ _ _ G H _ I q=>wpAny_tests_nil ⟨G,H,.refl H,I,q⟩
theorem qQ8 {X:Cx} {c:Expr} {t:TT3} (h:PT3 X c t):PIf3 X [c] t:=fun pins s τ G H Q I q=>wpAny_tests_one (h pins s τ G H Q I q)
def kXs (mask:List Bool) (g:TG3):Prop:=∀v τ G Q,g v τ G Q->g v τ G fun τ2 G2=>Q τ2 G2/\τ2.length=τ.length/\∀i:Nat,mask[i]? ≠some true->τ2[i]? =τ[i]?
def kVx (mask:List Bool) (g:TGs3):Prop:=∀v τ G Q,g v τ G Q->g v τ G fun τ2 G2=>Q τ2 G2/\τ2.length=τ.length/\∀i:Nat,mask[i]? ≠some true->τ2[i]? =τ[i]?
theorem jQb {mask:List Bool} {i:Nat} (h:mask[i]? =some true:=by rfl):kXs mask (jJi i):=fun v τ G Q q=>
 ⟨q,List.length_set ..,fun j hj=>List.getElem?_set_ne (by rintro rfl;exact hj h)⟩
theorem qUa {mask:List Bool}:kVx mask gNil:=fun v τ G Q ⟨e,q⟩=>⟨e,q,rfl,fun _ _=>rfl⟩
theorem kJ8 {mask:List Bool} {t:TG3} {u:TGs3} (h1:kXs mask t) (mono:∀v τ G Q Q',(∀a b,Q a b->Q' a b)->t v τ G Q->t v τ G Q') (h2:kVx mask u) (mono2:∀v τ G Q Q',(∀a b,Q a b->Q' a b)->u v τ G Q->u v τ G Q'):kVx mask (jVc t u):=fun vs τ G Q ⟨v,r,e,q⟩=>by
 refine⟨v,r,e,mono _ _ _ _ _ (fun τ2 G2 ⟨z,l1,k1⟩=> ?_) (h1 _ _ _ _ q)⟩
 exact mono2 _ _ _ _ _ (fun τ3 G3 ⟨z3,l3,k3⟩=>⟨z3,l3.trans l1,fun i hi=>(k3 i hi).trans (k1 i hi)⟩) (h2 _ _ _ _ z)
theorem jXw {i:Nat}:∀v τ G (Q Q':St3->Gp->Prop),(∀a b,Q a b->Q' a b)->jJi i v τ G Q->jJi i v τ G Q':=fun _ _ _ _ _ h q=>h _ _ q
theorem kVk:∀v τ G (Q Q':St3->Gp->Prop),(∀a b,Q a b->Q' a b)->gNil v τ G Q->gNil v τ G Q':=fun _ _ _ _ _ h q=>⟨q.1,h _ _ q.2⟩
theorem kZp {t:TG3} {u:TGs3} (m1:∀v τ G (Q Q':St3->Gp->Prop),(∀a b,Q a b->Q' a b)->t v τ G Q->t v τ G Q') (m2:∀v τ G (Q Q':St3->Gp->Prop),(∀a b,Q a b->Q' a b)->u v τ G Q->u v τ G Q'):
  ∀v τ G (Q Q':St3->Gp->Prop),(∀a b,Q a b->Q' a b)->jVc t u v τ G Q->jVc t u v τ G Q':=fun _ _ _ _ _ h ⟨v,r,e,q⟩=>⟨v,r,e,m1 _ _ _ _ _ (fun _ _ z=>m2 _ _ _ _ _ h z) q⟩
theorem qQ9 {mask:List Bool} {n:Nat} {u:TGs3} (h:kVx mask u):kXs mask (gTup n u):=fun v τ G Q ⟨xs,e,l,q⟩=>⟨xs,e,l,h _ _ _ _ q⟩
theorem qK0 {mask:List Bool} {τ τ2:St3} (hl:mask.length=τ.length) (l:τ2.length=(msk mask τ).length) (h:∀i:Nat,mask[i]? ≠some true->τ2[i]? =(msk mask τ)[i]?):msk mask τ2=msk mask τ:=by
 have ll:=jXq hl
 apply List.ext_getElem?
 intro i
 unfold msk at h ⊢
 rw[List.getElem?_zipWith,List.getElem?_zipWith]
 cases hm:mask[i]? with
 | none=>rfl
 | some b=>
  cases b with
  | true=>
   have h1:i<mask.length:=by
    rcases Nat.lt_or_ge i mask.length with z | z
    ·exact z
    ·rw[List.getElem?_eq_none z] at hm;cases hm
   have h2:i<τ2.length:=by omega
   have h3:i<τ.length:=by omega
   rw[List.getElem?_eq_getElem h2,List.getElem?_eq_getElem h3]
   simp
  | false=>
   have:=h i (by rw[hm];simp)
   rw[List.getElem?_zipWith,hm] at this
   rw[this]
   cases τ[i]? with
   | none=>rfl
   | some o=>simp
noncomputable def kQs (mask:List Bool) (g:TG3) (tif:TT3) (te:TE3) (τ:St3) (xs:List T) (stay:Gp->Prop) (G:Gp) (Q:VK3):Prop:=
 ∀D,G D=none->∃P:Nat->List T->Gp->Prop,P 0 [] (gup G D (.lst []))/\(∀i acc G,i<=xs.length->P i acc G->stay G/\G D=some (.lst acc))/\
  (∀i x acc G,xs[i]? =some x->P i acc G->g x (msk mask τ) G fun τ2 G2=>tif τ2 G2 fun b G3=>if b=true then te τ2 G3 fun y G4=>G4 D=some (.lst acc)/\acc.length<sizeLine/\P (i+1) (acc++[y]) (gup G4 D (.lst (acc++[y]))) else P (i+1) acc G3)/\
  ∀acc G,P xs.length acc G->Q (.ref D) G
def jQ3 (mask:List Bool) (wi:TI3) (g:TG3) (tif:TT3) (te:TE3):TE3:=fun τ G Q=>wi τ G fun xs stay G1=>kQs mask g tif te τ xs stay G1 Q
section
variable {X:Cx} {scope:Scope} {cl:List (Str×Addr)} {mask:List Bool} {elt iter tg:Expr} {ifs:List Expr} {pos:Pos} {wi:TI3} {g:TG3} {tif:TT3} {te:TE3}
theorem kJh (hc:X.calm=true) (ok:CmpOk X scope cl mask)
  (hgk:kXs mask g) (hg:∀C fp s H,PG3 (jUi X scope cl C fp s H) tg g) (hif:∀C fp s H,PIf3 (jUi X scope cl C fp s H) ifs tif) (he:∀C fp s H,PE3 (jUi X scope cl C fp s H) elt te)
  {pins:List (Addr×Obj)} {τ:St3} {H:Hp} {Q:VK3} {itv:Value} {s2:Shared} {E:Value->Shared->Prop} {RR:Value->Addr->Result->Shared->Prop}
  (h2:PIE3 X pins τ H tg (fun xs stay G=>kQs mask g tif te τ xs stay G Q) itv s2)
  (hRR:∀D C s' m,s'.heap.Ns C m->(∃G1 H1,Ext H H1/\H1 C=none/\Q (.ref D) G1/\∀h',Heap.SameBut C s'.heap h'->Inv3 X pins τ G1 H1 {s' with heap:=h'})->(∃oC,s'.heap.get? C=some oC/\C≠X.env.locals/\C∉X.fs/\∀v,oC.data≠ .cell v)->(∀x c,X.env.cells.lookup x=some c->c≠C)->(∀p∈X.pn++pins,p.1≠C)->X.s₀.heap.objs.size<=C->RR (.ref D) C (.ok .next) s'):
  wpAny (model X.prog X.w) X.A (newList []) (fun acc s₃=>wpAny (model X.prog X.w) X.A (newFunctionEnv scope X.env.globals cl [] X.env.qual none .none (some X.env)) (fun cenv s₄=>
   codeAny (model X.prog X.w) X.A (.compStart (.ListComp elt [⟨tg,iter,ifs,0⟩] scope pos) 0 itv acc {cenv with scope:=relabel scope X.env}) (RR acc cenv.locals) s₄) E s₃) E s2:=by
 obtain⟨it,fp,tn,J,xs,stay,G2,H2,e,eH,⟨σ,I2,hs2,hg2⟩,T0,st2,f2,IT,hq⟩:=h2
 subst e
 refine wpAny_newObj_type (wpAny_newFunctionEnv ok.nc (by intro y hy;simp at hy) (fun h4 hns hsb=> ?_) ok.kind)
 dsimp only at hns hsb ⊢
 have hD:H2 s2.heap.objs.size=none:=I2.hok.fresh (Nat.le_refl _)
 generalize hs3:({s2 with heap:=s2.heap.push {cls:= .type "list",dict:=none,data:= .seq ([]:List Value).toArray} }:Shared)=s3
 have eh3:s2.heap.push {cls:= .type "list",dict:=none,data:= .seq ([]:List Value).toArray}=s3.heap:=by rw[<-hs3]
 have I3:Inv X pins σ (upd H2 s2.heap.objs.size (.lst [])) s3:=by
  rw[<-hs3]
  exact I2.laid (t':=s2.toks) (fun b u e=>Heap.get?_push_of_some _ e) (Nat.le_refl _) ⟨Nat.zero_le _,[],0,.nil,Heap.get?_push_size _ rfl⟩
 rw[eh3] at hns hsb ⊢
 generalize hDd:s2.heap.objs.size=D at *
 have e3:Ext H2 (upd H2 D (.lst [])):= .upd (.none hD)
 have hg3:GRel X.K (upd H2 D (.lst [])) (gup G2 D (.lst [])):=hg2.lstNew (show Reps X.K H2 [] [] from rfl) (.none hD)
 have obj2:∀b∈fp,∃o,s2.heap.get? b=some o:=fun b hb=>let ⟨o,e,_⟩:=T0.obj 0 _ st2 b hb;⟨o,e⟩
 have fD:∀b∈fp,b≠D:=fun b hb=>by obtain⟨o,e⟩:=obj2 b hb;rw[<-hDd];exact Nat.ne_of_lt (Heap.lt_size e)
 have f3:∀b∈fp,FpOk X pins (upd H2 D (.lst [])) b:=fun b hb=>⟨by rw[jJz (fD b hb)];exact (f2 b hb).1,(f2 b hb).2⟩
 have k3:∀b o,s2.heap.get? b=some o->s3.heap.get? b=some o:=fun b o e=>by rw[<-eh3];exact Heap.get?_push_of_some _ e
 have obj3:∀b∈fp,∃o,s3.heap.get? b=some o:=fun b hb=>let ⟨o,e⟩:=obj2 b hb;⟨o,k3 b o e⟩
 have k4:∀b o,s3.heap.get? b=some o->h4.get? b=some o:=fun b o e=>hsb.extBut b o (Nat.ne_of_lt (Heap.lt_size e)) (Heap.get?_push_of_some _ e)
 have Ic:Inv (jUi X scope cl s3.heap.objs.size fp s3 (upd H2 D (.lst []))) [] (msk mask σ) (upd H2 D (.lst [])) {s3 with heap:=h4,toks:=s3.toks+([]:List (Str×Value)).length}:=qJf ok I3 f3 obj3 hns k4
 have st4:tn 0 h4:=T0.keep _ _ _ st2 fun b _ o e=>k4 b o (k3 b o e)
 have hl3:mask.length=τ.length:=ok.len.trans (I3.len.symm.trans hs2.1)
 obtain⟨P,p0,hst,turn,fin⟩:=hq D (hg2.fresh hD)
 have fpc:∀ {H':Hp} {pl:List (Addr×Obj)},(∀b∈fp,H' b=none)->(∀p∈pl,p.1∉fp)->∀b∈fp,FpOk (jUi X scope cl s3.heap.objs.size fp s3 (upd H2 D (.lst []))) pl H' b:=fun {H' pl} hn hp b hb=>by
  obtain⟨o,e⟩:=obj3 b hb
  refine⟨hn b hb,Nat.ne_of_lt (Heap.lt_size e),?_,.inl hb,fun x d hd=>(f3 b hb).2.2.2.2.1 x d (jYo ok.cl (by simp) _ _ hd),fun p hpp z=> ?_⟩
  ·intro z
   rcases List.mem_cons.mp (I3.stkSub b z) with q | q
   ·exact (f3 b hb).2.1 q
   ·exact (f3 b hb).2.2.1 q
  ·have hpp':p∈pl:=by simpa[jUi] using hpp
   exact hp p hpp' (z▸hb)
 have loop:∀s4:Shared,s4={s3 with heap:=h4,toks:=s3.toks+([]:List (Str×Value)).length}->
   codeAny (model X.prog X.w) X.A (.compLoop (.ListComp elt [⟨tg,iter,ifs,0⟩] scope pos) 0 (.ref it) (.ref D) (compEnvC scope cl s3.heap.objs.size X.env)) (RR (.ref D) s3.heap.objs.size) s4:=by
  rintro s4 rfl
  refine qJe (fun n s'=>∃i acc G' H',n=xs.length-i/\i<=xs.length/\Ext H2 H'/\Inv3 (jUi X scope cl s3.heap.objs.size fp s3 (upd H2 D (.lst []))) [] (msk mask τ) G' H' s'/\tn i s'.heap/\(∀b∈fp,H' b=none)/\P i acc G') ?_ xs.length
   ⟨0,[],_,_,rfl,Nat.zero_le _,e3,⟨_,Ic,kY7 (hs2.mono e3) hl3,hg3⟩,st4,fun b hb=>(f3 b hb).1,p0⟩
  rintro n s5 ⟨i,acc,G5,H5,en,hi5,e5,⟨σ5,I5,hs5,hg5⟩,st5,fr5,p5⟩
  obtain⟨hstay,hacc⟩:=hst i acc G5 hi5 p5
  obtain⟨go,stop,yl⟩:=IT i H5 G5 e5 hg5 hstay
  by_cases hlt:i<xs.length
  ·refine thn (T0.item (jUi X scope cl s3.heap.objs.size fp s3 (upd H2 D (.lst []))) rfl rfl rfl hc i [] s5 σ5 H5 (fun _ _=>False) I5 (fpc fr5 (by simp)) st5 (go hlt)) fun r s6 ⟨u,hr,h6⟩=> ?_
   subst hr
   refine thn h6 fun _ s7 ⟨x,H7,I7,r7,y7,st7,fr7⟩=> ?_
   obtain⟨e7,g7,t,ht,rt⟩:=yl hlt x H7 y7
   have I7':=I7.pinned (fpc fr7 (by simp)) (T0.obj _ _ st7)
   refine thn (hg _ _ _ _ ([]++jVk fp s7.heap) s7 (msk mask τ) G5 H7 t u _ ⟨σ5,I7',hs5.mono e7,g7⟩ ⟨x,rt,r7⟩ (hgk _ _ _ _ (turn i t acc G5 ht p5))) fun _ s8 ⟨τ8,G8,H8,e8,I8,q8,ql8,qk8⟩=> ?_
   refine thn (hif _ _ _ _ ([]++jVk fp s7.heap) s8 τ8 G8 H8 _ I8 q8) fun b s9 ⟨G9,H9,e9,I9,q9⟩=> ?_
   have back:∀ {Ga:Gp} {Ha:Hp} {sa:Shared} {acc':List T},Ext H7 Ha->Inv3 (jUi X scope cl s3.heap.objs.size fp s3 (upd H2 D (.lst []))) ([]++jVk fp s7.heap) τ8 Ga Ha sa->P (i+1) acc' Ga->
     ∃m,m<n/\∃i acc G' H',m=xs.length-i/\i<=xs.length/\Ext H2 H'/\Inv3 (jUi X scope cl s3.heap.objs.size fp s3 (upd H2 D (.lst []))) [] (msk mask τ) G' H' sa/\tn i sa.heap/\(∀b∈fp,H' b=none)/\P i acc G':=by
    rintro Ga Ha sa acc' ea ⟨σa,Ia,hsa,hga⟩ pa
    have e2a:Ext H5 Ha:=e7.trans ea
    have hla:mask.length=τ8.length:=by rw[ql8,jXq hl3];exact hl3
    have hsm:=kY7 (mask:=mask) hsa hla
    rw[qK0 hl3 ql8 qk8] at hsm
    refine⟨xs.length-(i+1),by omega,i+1,acc',Ga,Ha,rfl,hlt,e5.trans e2a,⟨msk mask σa,(Ia.weak (jXq (hla.trans hsa.1.symm)) fun j v hv=>(kQ8 hv).2).pins_of (fun p hp=>absurd hp (by simp)),hsm,hga⟩,?_,fun b hb=> ?_,pa⟩
    ·exact T0.keep _ _ _ st7 fun b hb o e=>(Ia.pin (b,o) (List.mem_append_right _ (List.mem_append_right _ (jVf hb e)))).1
    ·obtain⟨o,e,d⟩:=T0.obj _ _ st7 b hb
     exact (Ia.pin (b,o) (List.mem_append_right _ (List.mem_append_right _ (jVf hb e)))).2.1
   cases b with
   | false=>
    rw[if_neg Bool.false_ne_true] at q9 ⊢
    exact back (e8.trans e9) I9 q9
   | true=>
    rw[if_pos rfl] at q9 ⊢
    refine thn (he _ _ _ _ ([]++jVk fp s7.heap) s9 τ8 G9 H9 _ I9 q9) fun y s10 w_=>w_.el fun ty G10 H10 e10 I10 r10 ⟨hD10,hz10,q10⟩=> ?_
    obtain⟨vy,rvy,ruy⟩:=r10
    refine thn (jK6 ([]++jVk fp s7.heap) s10 τ8 G10 H10 (.ref D) [ty] (.ref D) [y] (fun _ G'=>P (i+1) (acc++[ty]) G') I10 ⟨.ref D,rfl,rfl⟩ ⟨[vy],.one rvy,.cons ruy .nil⟩ ⟨D,acc,ty,rfl,rfl,hD10,hz10,q10⟩) fun _ s11 w_=>w_.el fun _ G11 H11 e11 I11 _ q11=> ?_
    exact back (((e8.trans e9).trans e10).trans e11) I11 q11
  ·have ei:i=xs.length:=by omega
   refine thn (T0.done (jUi X scope cl s3.heap.objs.size fp s3 (upd H2 D (.lst []))) rfl rfl rfl hc i [] s5 σ5 H5 (fun _ _=>False) I5 (fpc fr5 (by simp)) st5 (stop (by omega))) fun r s6 ⟨hr,I6⟩=> ?_
   subst hr;subst ei
   obtain⟨m,hn,_⟩:=I6.loc
   obtain⟨oC,es,ep,hoC,hdC,_⟩:=id hn
   refine hRR D s3.heap.objs.size s6 m hn ⟨G5,H5,eH.trans e5,I6.free,fin acc G5 p5,fun h' hb=>⟨σ,qV3 I3 f3 (Nat.le_refl _) I6 hb,hs2.mono e5,hg5⟩⟩
    ⟨oC,hoC,Nat.ne_of_gt I3.lt,I3.nofs (Nat.le_refl _),fun v z=>by rw[hdC] at z;cases z⟩ (fun x d hd=> ?_) (fun p hp=> ?_) I3.sz
   ·obtain⟨v,q⟩:=I3.cell x d hd
    exact Nat.ne_of_lt q.lt
   ·exact Nat.ne_of_lt (Heap.lt_size (I3.pin p hp).1)
 exact codeAny_compStart_list (loop _ (by rw[<-hs3])) (T0.self _ 0 _ _ _ st4 (loop _ (by rw[<-hs3])))
theorem jXe (hc:X.calm=true) (ok:CmpOk X scope cl mask) (hi:PI3 X tg iter wi) (hgk:kXs mask g) (hg:∀C fp s H,PG3 (jUi X scope cl C fp s H) tg g) (hif:∀C fp s H,PIf3 (jUi X scope cl C fp s H) ifs tif) (he:∀C fp s H,PE3 (jUi X scope cl C fp s H) elt te)
  (hs:∀x,foldedSetIterable iter X.env x=pure x:=by intro _;rfl):PE3 X (.ListComp elt [⟨tg,iter,ifs,0⟩] scope pos) (jQ3 mask wi g tif te):=by
 intro pins s τ G H Q I h
 rw[eval_ListComp]
 refine wpAny_comprehension_free (use:=none) rfl hs (kJi ok.cl) ok.kind ok.nm (thn (hi pins s τ G H _ I h) fun xv s1 h1=>thn h1 fun itv s2 h2=> ?_)
 refine kJh (RR:=fun acc C=>compPost (model X.prog X.w) X.A X.xe none (EP3 X pins τ H Q) acc C) hc ok hgk hg hif he h2 ?_
 rintro D C s' m hn ⟨G1,H1,e1,_,q1,hI⟩ _ _ _ _
 exact⟨m,hn,fun h' hb=>⟨.ref D,G1,H1,e1,hI h' hb,⟨.ref D,rfl,rfl⟩,q1⟩⟩
theorem qQy {i:Nat} {y:Str} {py spos:Pos} (hc:X.calm=true) (hN:X.N.Nodup) (ok:CmpOk X scope cl mask) (hi:PI3 X tg iter wi) (hgk:kXs mask g) (hg:∀C fp s H,PG3 (jUi X scope cl C fp s H) tg g) (hif:∀C fp s H,PIf3 (jUi X scope cl C fp s H) ifs tif) (he:∀C fp s H,PE3 (jUi X scope cl C fp s H) elt te)
  (hy:X.N[i]? =some y:=by rfl) (hx:X.env.scope.names.lookup y=some .local:=by rfl)
  (hsw:swapsWith (.ListComp elt [⟨tg,iter,ifs,0⟩] scope pos) (some (.Name y py)) spos.line X.env=pure true:=by rfl)
  (hs:∀x,foldedSetIterable iter X.env x=pure x:=by intro _;rfl):PS3 X (.Assign [.Name y py] (.ListComp elt [⟨tg,iter,ifs,0⟩] scope pos) spos) (tAsg (jQ3 mask wi g tif te) (jJi i)):=by
 intro pins s τ G H D I h
 rw[exec_Assign_Name_used _ _ _ _ hsw];refine wpAny_bind (wpAny_standAt (wpAny_bind ?_))
 show wpAny _ X.A (do let _ <-comprehension (.ListComp elt [⟨tg,iter,ifs,0⟩] scope pos) scope X.env _ (newList []) false (eval iter X.env) (some (assign (.Name y py) X.env))) _ _ s
 refine wpAny_bind (wpAny_mono (wpAny_comprehension_free (use:=some (assign (.Name y py) X.env)) (Q:=fun _ s'=>SP3 X pins H D .next s') rfl hs (kJi ok.cl) ok.kind ok.nm
  (thn (hi pins s τ G H _ I h) fun xv s1 h1=>thn h1 fun itv s2 h2=> ?_)) (fun _ s' hq=>wpAny_pure (wpAny_pure hq)) fun _ _ e=>e)
 refine kJh (RR:=fun acc C=>compPost (model X.prog X.w) X.A X.xe (some (assign (.Name y py) X.env)) (fun _ s'=>SP3 X pins H D .next s') acc C) hc ok hgk hg hif he h2 ?_
 rintro Dd C s' m hn ⟨G1,H1,e1,hH1C,q1,hI⟩ ⟨oC,hoC,c1,c2,c3⟩ c4 c5 c6
 show wpAny _ X.A (assign (.Name y py) X.env (.ref Dd)) _ _ _
 obtain⟨σ1,I1,hs1,hg1⟩:=hI s'.heap (.refl ..)
 have I1':Inv X (pins++[(C,oC)]) σ1 H1 s':=I1.pins_of fun p hp=>(List.mem_append.mp hp).elim (fun z=>I1.pin p (List.mem_append_right _ z)) fun z=>by
  obtain rfl:p=(C,oC):=by simpa using z
  exact⟨hoC,hH1C,c1,c2,c3⟩
 refine wpAny_assign_Name (jV1 I1' hN hy (.inl hx) (v:= .ref Dd) rfl (fun s2 I2=> ?_) (.inr hx))
 have hC2:s2.heap.get? C=some oC:=(I2.pin (C,oC) (List.mem_append_right _ (List.mem_append_right _ (by simp)))).1
 obtain⟨oC',es,ep,hoC',r⟩:=hn
 have eo:oC'=oC:=by rw[hoC] at hoC';exact (Option.some.inj hoC').symm
 subst eo
 refine⟨m,⟨oC',es,ep,hC2,r⟩,fun h' hb=>⟨_,G1,H1,e1,⟨_,?_,hs1.set i (show Rep X.K H1 (.ref Dd) (.ref Dd) from rfl),hg1⟩,q1⟩⟩
 exact I2.unpinned.turned (t':=s2.toks) (fun b o hb' e=>(hb.2 b hb').trans e) hH1C c1 (.inr c6) c4 c5
end
end L3
namespace HT
open PySem PyProof.Rows
def lexLe:(xs ys:List Int)->Bool
 | [],_=>true
 | _::_,[]=>false
 | x::xs,y::ys=>if x=y then lexLe xs ys else decide (x<=y)
theorem kXf (x y:Int) (xs ys:List Int):lexLe (x::xs) (y::ys)=if x=y then lexLe xs ys else decide (x<=y):=rfl
theorem kZa (ys:List Int):lexLe [] ys=true:=by cases ys<;>rfl
theorem jZ5 (x:Int) (xs:List Int):lexLe (x::xs) []=false:=rfl
theorem qKk (A:Around) (s:Shared) (a:Int) (t:Tok) (c:Int) (u:Tok) (prog:Program) (w:World) (E:Value->Shared->Prop) (Q:Value->Shared->Prop) (h:Q (.bool (decide (a<=c))) s):
  wpAny (model prog w) A (richCompare .LtE (.int a t) (.int c u)) Q E s:=
 (PyProof.Rows.le_int h:wpAny (model prog w) A (compareOp .LtE (.int a t) (.int c u)) Q E s)
section
open PySem.SeqAt
open PySem.AutoSeq1 (wpAny_loadPart')
open PySem.MeetsSeq PySem.MeetsSeq2 PySem.MeetsSeq3
theorem kJm (l b:Addr) (items items2:Array Value) (n n2:Nat) (dd dd2:Option Addr) (sl sl2:Array (Option Value)) (ns ms:List Int) (hi:IntsAre items.toList ns) (hj:IntsAre items2.toList ms):
  Meets (Builtin.«tuple.__le__» ⟨[.ref l,.ref b],[]⟩)
   (fun _ R s=>s.heap.get? l=some {cls:= .type "tuple",dict:=dd,data:= .seq items n,slots:=sl}/\s.heap.get? b=some {cls:= .type "tuple",dict:=dd2,data:= .seq items2 n2,slots:=sl2}/\
    R (.ok (.ret (.bool (lexLe ns ms)))) s):=
 .of_wp fun prog w A R s h=>by
  obtain⟨hp,g,d,tk,os⟩:=s;obtain⟨hl,hb,h⟩:=h
  have f2:=AutoSeq1.sub_tuple_tuple
  have z1:items.size=ns.length:=by rw[<-hi.length];simp
  have z2:items2.size=ms.length:=by rw[<-hj.length];simp
  wp_walk using wpAny_loadPart' hl,wpAny_loadPart' hb,wpAny_forIn_list _ (fun rest b s'=>b.1=none/\s'=⟨hp,g,d,tk,os⟩/\∃(vs ws:List Value) (ns' ms':List Int),rest=vs.zip ws/\
   IntsAre vs ns'/\IntsAre ws ms'/\ns'.length+items2.size=ms'.length+items.size/\R (.ok (.ret (.bool (lexLe ns' ms')))) ⟨hp,g,d,tk,os⟩) _
  case turn=>
   rintro⟨y,x⟩ rest b s' ⟨hb',rfl,vs,ws,ns',ms',hz,hvi,hwi,hlen,hR⟩
   cases hvi with
   | nil=>rw[List.zip_nil_left] at hz;cases hz
   | cons a t hvi'=>
    cases hwi with
    | nil=>rw[List.zip_nil_right] at hz;cases hz
    | cons c u hwi'=>
     rw[List.zip_cons_cons] at hz
     injection hz with hyx hrest
     injection hyx with hy hx
     subst hy hx
     rw[kXf] at hR
     simp only[List.length_cons] at hlen
     obtain⟨e,he,hiff⟩:=qQk A.in1 ⟨hp,g,d,tk,os⟩ a t c u
     refine wpAny_bind (he prog w _ _ ?_)
     cases e with
     | true=>
      rw[if_pos (hiff.mp rfl)] at hR
      wp_walk
      exact⟨rfl,rfl,_,_,_,_,hrest,hvi',hwi',by omega,hR⟩
     | false=>
      rw[if_neg (fun q=>absurd (hiff.mpr q) Bool.false_ne_true)] at hR
      have hri:=qKk A.in1 ⟨hp,g,d,tk,os⟩ a t c u prog w
      wp_walk using hri
      exact⟨_,rfl,by simpa using hR⟩
  case fin=>
   rintro⟨b1,b2⟩ s' ⟨hb',rfl,vs,ws,ns',ms',hz,hvi,hwi,hlen,hR⟩
   simp only at hb'
   subst hb'
   have hv:lexLe ns' ms'=decide (items.size<=items2.size):=by
    cases hvi with
    | nil=>
     simp only[List.length_nil] at hlen
     rw[kZa]
     exact (decide_eq_true (by omega)).symm
    | cons a t hv=>
     cases hwi with
     | nil=>
      simp only[List.length_nil,List.length_cons] at hlen
      rw[jZ5]
      exact (decide_eq_false (by omega)).symm
     | cons c u hw=>
      rw[List.zip_cons_cons] at hz
      cases hz
   rw[hv] at hR
   wp_walk
   exact⟨_,rfl,by simpa[Builtin.Tuple.tupleCompareSizes] using hR⟩
  case h=>
   exact⟨rfl,rfl,items.toList,items2.toList,ns,ms,rfl,hi,hj,by omega,h⟩
end
theorem le_tupInts {prog:Program} {w:World} {A:Around} {E:Value->Shared->Prop} {s:Shared} {l b:Addr} {items items2:Array Value} {ns ms:List Int} {Q:Value->Shared->Prop} (hl:IsTup s.heap l items) (hb:IsTup s.heap b items2) (hi:IntsAre items.toList ns) (hj:IntsAre items2.toList ms)
  (hu:A.units<cLine) (h:Q (.bool (lexLe ns ms)) s):wpAny (model prog w) A (compareOp .LtE (.ref l) (.ref b)) Q E s:=by
 obtain⟨⟨cls,dd,data,sl⟩,ho,hc,n,hd⟩:=id hl
 obtain⟨⟨cls2,dd2,data2,sl2⟩,ho2,hc2,n2,hd2⟩:=id hb
 simp only at hc hd hc2 hd2
 subst hc hd hc2 hd2
 exact richCompare_meets_room (op:= .LtE) ⟨_,ho,rfl⟩ ⟨_,ho2,rfl⟩ PySem.F.slot_tuple_le PySem.F.entry_tuple_le (PySem.F.args_tuple_le_2 _ _) (kJm l b items items2 n n2 dd dd2 sl sl2 ns ms hi hj)
  ⟨ho,ho2,show Value.bool (lexLe ns ms)≠Value.notImplemented/\Q (.bool (lexLe ns ms)) s from⟨(fun x=>nomatch x),h⟩⟩ hu
end HT
namespace L3
open PySem PySem.Spec PyProof.Rows L2
section
variable {X:Cx}
theorem jK3 {K:PySem.W.Frag} {H:Hp}:∀ {ns:List Int} {vs:List V},Reps K H (ns.map T.int) vs->vs=ns.map V.int
 | [],_,h=>h
 | n::ns,_,⟨v,ws,e,r,rs⟩=>by
  subst e;cases (show v= .int n from r)
  rw[jK3 rs];rfl
def rLeT:R3:=fun x y G Q=>∃ns ms,x= .tup (ns.map T.int)/\y= .tup (ms.map T.int)/\Q (.bl (HT.lexLe ns ms)) G
theorem o_leT (hu:X.A.units<cLine):Op3 X (compareOp .LtE) rLeT:=by
 rintro pins s τ G H x y v u Q ⟨σ,I,hs,hg⟩ ⟨a,ra,rv⟩ ⟨b,rb,ru⟩ ⟨ns,ms,ex,ey,q⟩
 subst ex;subst ey
 obtain⟨p,vs,e1,h1,h2⟩:=(show ∃p vs,a= .ref p/\H p=some (.tup vs)/\Reps X.K H (ns.map T.int) vs from ra)
 obtain⟨p',ws,e2,h3,h4⟩:=(show ∃p vs,b= .ref p/\H p=some (.tup vs)/\Reps X.K H (ms.map T.int) vs from rb)
 subst e1;subst e2
 cases rv;cases ru
 rw[jK3 h2] at h1
 rw[jK3 h4] at h3
 obtain⟨its,r1,p1,_⟩:=I.tuple (.of h1)
 obtain⟨its2,r2,p2,_⟩:=I.tuple (.of h3)
 exact HT.le_tupInts p1 p2 (show IntsAre its.toArray.toList ns from kJe r1) (show IntsAre its2.toArray.toList ms from kJe r2) hu ⟨.bl _,G,H,.refl H,⟨σ,I,hs,hg⟩,⟨.bl _,rfl,rfl⟩,q⟩
def rLeI:R3:=rI0 fun i j=> .bl (decide (i<=j))
def rLeA:R3:=fun x y G Q=>rLeI x y G Q\/rLeT x y G Q
theorem o_leA (hu:X.A.units+20<cLine):Op3 X (compareOp .LtE) rLeA:=o_le.or (o_leT (by omega))
theorem kZ3 {G:Gp} {x y:T} {b:Bool} (h:eqG G x y=some b):
  (∃p q xs ys,x= .ref p/\y= .ref q/\G p=some (.lst xs)/\G q=some (.lst ys)/\jXc xs=true/\jXc ys=true/\b=eqTs xs ys)\/(eqOk x=true/\eqOk y=true/\b=eqT x y):=by
 by_cases hr:∃p q,x= .ref p/\y= .ref q
 ·obtain⟨p,q,ex,ey⟩:=hr
  subst ex;subst ey
  refine .inl ?_
  simp only[eqG] at h
  split at h
  ·rename_i xs ys h1 h2
   split at h
   ·rename_i hc
    cases h
    exact⟨p,q,xs,ys,rfl,rfl,h1,h2,hc.1,hc.2,rfl⟩
   ·cases h
  ·cases h
 ·refine .inr ?_
  have e:eqG G x y=if eqOk x=true/\eqOk y=true then some (eqT x y) else none:=by
   cases x with
   | ref p=>cases y with
    | ref q=>exact absurd ⟨p,q,rfl,rfl⟩ hr
    | _=>rfl
   | _=>rfl
  rw[e] at h
  split at h
  ·rename_i hc
   cases h
   exact⟨hc.1,hc.2,rfl⟩
  ·cases h
mutual
theorem kQx {X:Cx} {pins:List (Addr×Obj)} {σ:L2.St} {H:Hp} {s:Shared} (I:Inv X pins σ H s):∀(x:T) {a:V} {u:Value},tree x=true->Rep X.K H x a->RelV a u->∃as,Reads s.heap u (td x) as
 | .non,a,u,_,r,q=>by cases (show a= .non from r);cases q;exact⟨_,.none⟩
 | .bl b,a,u,_,r,q=>by cases (show a= .bl b from r);cases q;exact⟨_,.bool b⟩
 | .int b,a,u,_,r,q=>by cases (show a= .int b from r);obtain⟨t,rfl⟩:=q;exact⟨_,.int b t⟩
 | .str b,a,u,_,r,q=>by cases (show a= .str b from r);obtain⟨t,rfl⟩:=q;exact⟨_,.str b t⟩
 | .tup xs,a,u,ht,r,q=>by
  obtain⟨p,vs,e1,h1,h2⟩:=(show ∃p vs,a= .ref p/\H p=some (.tup vs)/\Reps X.K H xs vs from r)
  subst e1;cases q
  obtain⟨its,rv,⟨o,ho,hc,n,hd⟩,_⟩:=I.tuple (.of h1)
  obtain⟨as,ra⟩:=jYd I xs (show jK7 xs=true from ht) h2 rv
  exact⟨_,.tuple ho hc hd (by simpa using ra)⟩
 | .ref _,_,_,ht,_,_=>absurd (show false=true from ht) Bool.false_ne_true
 | .scr _,_,_,ht,_,_=>absurd (show false=true from ht) Bool.false_ne_true
 | .ty _,_,_,ht,_,_=>absurd (show false=true from ht) Bool.false_ne_true
theorem jYd {X:Cx} {pins:List (Addr×Obj)} {σ:L2.St} {H:Hp} {s:Shared} (I:Inv X pins σ H s):∀(xs:List T) {vs:List V} {us:List Value},jK7 xs=true->Reps X.K H xs vs->Vals vs us->∃as,ReadsAll s.heap us (tds xs) as
 | [],_,_,_,r,q=>by cases r;cases q;exact⟨_,.nil⟩
 | x::xs,_,_,ht,⟨v,ws,e,r1,r2⟩,q=>by
  subst e
  cases q with
  | cons q1 q2=>
   have hx:tree x=true/\jK7 xs=true:=by simpa[jK7] using ht
   obtain⟨as,ra⟩:=kQx I x hx.1 r1 q1
   obtain⟨bs,rb⟩:=jYd I xs hx.2 r2 q2
   exact⟨_,.cons ra rb⟩
end
mutual
theorem eqv_T:∀(x y:T),tree x=true->tree y=true->PyData.eqv (td x) (td y)=eqT x y
 | .non,y,_,hy=>by cases y<;>first | rfl | exact absurd (show false=true from hy) Bool.false_ne_true
 | .bl b,y,_,hy=>by cases y<;>first | rfl | exact absurd (show false=true from hy) Bool.false_ne_true
 | .int b,y,_,hy=>by cases y<;>first | rfl | exact absurd (show false=true from hy) Bool.false_ne_true
 | .str b,y,_,hy=>by cases y<;>first | rfl | exact absurd (show false=true from hy) Bool.false_ne_true
 | .tup xs,y,hx,hy=>by
  cases y with
  | tup ys=>exact kZz xs ys (show jK7 xs=true from hx) (show jK7 ys=true from hy)
  | _=>first | rfl | exact absurd (show false=true from hy) Bool.false_ne_true
 | .ref _,_,ht,_=>absurd (show false=true from ht) Bool.false_ne_true
 | .scr _,_,ht,_=>absurd (show false=true from ht) Bool.false_ne_true
 | .ty _,_,ht,_=>absurd (show false=true from ht) Bool.false_ne_true
theorem kZz:∀(xs ys:List T),jK7 xs=true->jK7 ys=true->PyData.eqvAll (tds xs) (tds ys)=eqTs xs ys
 | [],[],_,_=>rfl
 | [],_::_,_,_=>rfl
 | _::_,[],_,_=>rfl
 | x::xs,y::ys,hx,hy=>by
  have hx':tree x=true/\jK7 xs=true:=by simpa[jK7] using hx
  have hy':tree y=true/\jK7 ys=true:=by simpa[jK7] using hy
  show (PyData.eqv (td x) (td y)&&PyData.eqvAll (tds xs) (tds ys))=(eqT x y&&eqTs xs ys)
  rw[eqv_T x y hx'.1 hy'.1,kZz xs ys hx'.2 hy'.2]
end
theorem kVo {pins:List (Addr×Obj)} {σ:L2.St} {H:Hp} {s:Shared} {G:Gp} {x y:T} {a b:V} {u v:Value} {k:Bool} (I:Inv X pins σ H s) (hg:GRel X.K H G) (ra:Rep X.K H x a) (rb:Rep X.K H y b) (ru:RelV a u) (rv:RelV b v) (h:eqG G x y=some k):
  ∃da db as bs,Reads s.heap u da as/\Reads s.heap v db bs/\da.canLay0=true/\db.canLay0=true/\da.depth<=50/\PyData.eqv da db=k:=by
 rcases kZ3 h with ⟨p,q,xs,ys,ex,ey,hp,hq,ox,oy,e⟩ | ⟨ox,oy,e⟩
 ·subst ex;subst ey
  cases (show a= .ref p from ra);cases (show b= .ref q from rb)
  cases ru;cases rv
  obtain⟨vs,h1,h2⟩:=hg.lst hp
  obtain⟨ws,h3,h4⟩:=hg.lst hq
  obtain⟨its,r1,⟨o,n,ho,hc,_,hd⟩,_⟩:=I.list (.of h1)
  obtain⟨its',r2,⟨o',n',ho',hc',_,hd'⟩,_⟩:=I.list (.of h3)
  simp only[jXc,Bool.and_eq_true,decide_eq_true_eq] at ox oy
  obtain⟨as,r3⟩:=jYd I xs ox.1.1 h2 r1
  obtain⟨bs,r4⟩:=jYd I ys oy.1.1 h4 r2
  exact⟨.list (tds xs),.list (tds ys),_,_,.list ho hc hd (by simpa using r3),.list ho' hc' hd' (by simpa using r4),ox.1.2,oy.1.2,ox.2,by rw[e];exact kZz xs ys ox.1.1 oy.1.1⟩
 ·simp only[eqOk,Bool.and_eq_true,decide_eq_true_eq] at ox oy
  obtain⟨as,r3⟩:=kQx I x ox.1.1 ra ru
  obtain⟨bs,r4⟩:=kQx I y oy.1.1 rb rv
  exact⟨td x,td y,_,_,r3,r4,ox.1.2,oy.1.2,ox.2,by rw[e];exact eqv_T x y ox.1.1 oy.1.1⟩
theorem jZe (hu:X.A.units+64<cLine):Op3 X (compareOp .Eq) rEqA:=by
 rintro pins s τ G H x y v u Q ⟨σ,I,hs,hg⟩ ⟨a,ra,rv⟩ ⟨b,rb,ru⟩ ⟨k,hk,q⟩
 obtain⟨da,db,as,bs,r1,r2,c1,c2,d,e⟩:=kVo I hg ra rb rv ru hk
 exact SeqAt.compareEq_reads r1 r2 c1 c2 (by omega) ⟨.bl k,G,H,.refl H,⟨σ,I,hs,hg⟩,⟨.bl k,rfl,by rw[e];rfl⟩,q⟩
theorem qKt (hu:X.A.units+64<cLine):Op3 X (compareOp .NotEq) rNeA:=by
 rintro pins s τ G H x y v u Q ⟨σ,I,hs,hg⟩ ⟨a,ra,rv⟩ ⟨b,rb,ru⟩ ⟨k,hk,q⟩
 obtain⟨da,db,as,bs,r1,r2,c1,c2,d,e⟩:=kVo I hg ra rb rv ru hk
 exact SeqAt.compareNe_reads r1 r2 c1 c2 (by omega) ⟨.bl (!k),G,H,.refl H,⟨σ,I,hs,hg⟩,⟨.bl (!k),rfl,by rw[e];rfl⟩,q⟩
end
section
variable {X:Cx}
def jVy:T->Bool
 | .non=>true
 | .bl _=>true
 | .int _=>true
 | .str _=>true
 | _=>false
theorem jYl {K:PySem.W.Frag} {H:Hp} {x:T} {a:V} (r:Rep K H x a) (f:jVy x=true):jZ6 a=true:=by
 cases x with
 | non=>cases (show a= .non from r);rfl
 | bl _=>cases (show a= .bl _ from r);rfl
 | int _=>cases (show a= .int _ from r);rfl
 | str _=>cases (show a= .str _ from r);rfl
 | _=>exact absurd (show false=true from f) Bool.false_ne_true
theorem kZt {K:PySem.W.Frag} {H:Hp} {x y:T} {a b:V} (r:Rep K H x a) (q:Rep K H y b) (f:jVy x=true) (g:jVy y=true):eqV a b=eqT x y:=by
 cases x with
 | non=>cases (show a= .non from r);cases y with
  | non=>cases (show b= .non from q);rfl
  | bl _=>cases (show b= .bl _ from q);rfl
  | int _=>cases (show b= .int _ from q);rfl
  | str _=>cases (show b= .str _ from q);rfl
  | _=>exact absurd (show false=true from g) Bool.false_ne_true
 | bl _=>cases (show a= .bl _ from r);cases y with
  | non=>cases (show b= .non from q);rfl
  | bl _=>cases (show b= .bl _ from q);rfl
  | int _=>cases (show b= .int _ from q);rfl
  | str _=>cases (show b= .str _ from q);rfl
  | _=>exact absurd (show false=true from g) Bool.false_ne_true
 | int _=>cases (show a= .int _ from r);cases y with
  | non=>cases (show b= .non from q);rfl
  | bl _=>cases (show b= .bl _ from q);rfl
  | int _=>cases (show b= .int _ from q);rfl
  | str _=>cases (show b= .str _ from q);rfl
  | _=>exact absurd (show false=true from g) Bool.false_ne_true
 | str _=>cases (show a= .str _ from r);cases y with
  | non=>cases (show b= .non from q);rfl
  | bl _=>cases (show b= .bl _ from q);rfl
  | int _=>cases (show b= .int _ from q);rfl
  | str _=>cases (show b= .str _ from q);rfl
  | _=>exact absurd (show false=true from g) Bool.false_ne_true
 | _=>exact absurd (show false=true from f) Bool.false_ne_true
def inT (x:T) (xs:List T):Bool:=xs.any fun y=>eqT y x
theorem kJ9 {K:PySem.W.Frag} {H:Hp} {x:T} {a:V} (r:Rep K H x a) (f:jVy x=true):∀ {xs:List T} {vs:List V},Reps K H xs vs->xs.all jVy=true->vs.all jZ6=true/\inV a vs=inT x xs
 | [],_,h,_=>by cases h;exact⟨rfl,rfl⟩
 | y::ys,_,⟨v,ws,e,r1,r2⟩,g=>by
  subst e
  rw[List.all_cons,Bool.and_eq_true] at g
  obtain⟨h1,h2⟩:=kJ9 r f r2 g.2
  refine⟨by rw[List.all_cons,jYl r1 g.1,h1];rfl,?_⟩
  unfold inV inT at h2 ⊢
  rw[List.any_cons,List.any_cons,kZt r1 r g.1 f,h2]
def rInF (neg:Bool):R3:=fun x y G Q=>∃xs,seqT G y=some xs/\jVy x=true/\xs.all jVy=true/\Q (.bl (if neg then !inT x xs else inT x xs)) G
theorem qVm {neg:Bool} {op:CmpOp} (h:OpR X (compareOp op) (L2.rIn X.K neg)):Op3 X (compareOp op) (rInF neg):=
 Op3.of h fun H G x y a b Q hg ra rb ⟨xs,hx,fx,fs,q⟩=>by
  obtain⟨p,vs,e,hq,r⟩:=jUe hg rb hx
  obtain⟨h1,h2⟩:=kJ9 ra fx r fs
  exact⟨p,vs,e,hq,jYl ra fx,h1,.bl _,G,.refl H,hg,by rw[h2];rfl,q⟩
theorem o_notInF:Op3 X (compareOp .NotIn) (rInF true):=qVm kKt
def jXa:T->Option Key
 | .int i=>some (.inl i)
 | .str x=>some (.inr x)
 | _=>none
def allK {K:Type} (f:T->Option K):List T->Option (List K)
 | []=>some []
 | x::xs=>match f x,allK f xs with
  | some k,some ks=>some (k::ks)
  | _,_=>none
def key1:T->Option K1
 | .tup ts=>(allK jXa ts).map .inr
 | x=>(jXa x).map .inl
def key2:T->Option K2
 | .tup ts=>(allK key1 ts).map .inr
 | x=>(jXa x).map .inl
def jV9:List T->Option TKey:=allK key2
theorem jUh {K:PySem.W.Frag} {H:Hp} {x:T} {a:V} {k:Key} (h:jXa x=some k) (r:Rep K H x a):a=kV k:=by
 cases x with
 | int i=>cases h;exact r
 | str i=>cases h;exact r
 | non=>cases h
 | bl _=>cases h
 | tup _=>cases h
 | scr _=>cases h
 | ref _=>cases h
 | ty _=>cases h
theorem jYq {K:PySem.W.Frag} {H:Hp} {κ:Type} {f:T->Option κ} {R:κ->V->Prop} (hf:∀x k a,f x=some k->Rep K H x a->R k a):∀ {xs:List T} {vs:List V} {ks:List κ},allK f xs=some ks->Reps K H xs vs->Paired R ks vs
 | [],_,_,h,r=>by cases h;cases (show _=[] from r);exact .nil
 | x::xs,_,ks,h,⟨v,ws,e,r1,r2⟩=>by
  subst e
  unfold allK at h
  cases e1:f x with
  | none=>rw[e1] at h;cases h
  | some k=>
   cases e2:allK f xs with
   | none=>rw[e1,e2] at h;cases h
   | some ks'=>
    rw[e1,e2] at h;cases h
    exact .cons (hf _ _ _ e1 r1) (jYq hf e2 r2)
theorem qK9 {K:PySem.W.Frag} {H:Hp} (x:T) (k:K1) (a:V) (h:key1 x=some k) (r:Rep K H x a):Rk1 H k a:=by
 cases x with
 | tup ts=>
  obtain⟨ks,h1,rfl⟩:=Option.map_eq_some_iff.mp (show (allK jXa ts).map Sum.inr=some k from h)
  obtain⟨p,vs,e,h3,h4⟩:=(show ∃p vs,a= .ref p/\H p=some (.tup vs)/\Reps K H ts vs from r)
  exact⟨p,vs,e,h3,jYq (fun x k a h r=>jUh h r) h1 h4⟩
 | int i=>cases h;exact r
 | str i=>cases h;exact r
 | non=>cases h
 | bl _=>cases h
 | scr _=>cases h
 | ref _=>cases h
 | ty _=>cases h
theorem qK8 {K:PySem.W.Frag} {H:Hp} (x:T) (k:K2) (a:V) (h:key2 x=some k) (r:Rep K H x a):Rk2 H k a:=by
 cases x with
 | tup ts=>
  obtain⟨ks,h1,rfl⟩:=Option.map_eq_some_iff.mp (show (allK key1 ts).map Sum.inr=some k from h)
  obtain⟨p,vs,e,h3,h4⟩:=(show ∃p vs,a= .ref p/\H p=some (.tup vs)/\Reps K H ts vs from r)
  exact⟨p,vs,e,h3,jYq qK9 h1 h4⟩
 | int i=>cases h;exact r
 | str i=>cases h;exact r
 | non=>cases h
 | bl _=>cases h
 | scr _=>cases h
 | ref _=>cases h
 | ty _=>cases h
theorem jXs {K:PySem.W.Frag} {H:Hp} {xs:List T} {vs:List V} {ks:TKey} {p:Addr} (h:jV9 xs=some ks) (e:H p=some (.tup vs)) (r:Reps K H xs vs):TKeyAt H ks p:=⟨vs,e,jYq qK8 h r⟩
def valT {κ:Type} [DecidableEq κ] (kvs:List (κ×T)) (k:κ):Option T:=(kvs.find? fun kv=>decide (kv.1=k)).map (·.2)
noncomputable def putT {κ:Type} [DecidableEq κ] (kvs:List (κ×T)) (k:κ) (v:T):List (κ×T):=
 if (kvs.any fun kv=>decide (kv.1=k))=true then kvs.map (fun kv=>if kv.1=k then (kv.1,v) else kv) else kvs++[(k,v)]
theorem PKV.val {κ:Type} [DecidableEq κ] {K:PySem.W.Frag} {H:Hp} {kvs:List (κ×T)} {ws:List (κ×V)} (r:PKV K H kvs ws) (k:κ):(∀t,valT kvs k=some t->∃v,valV ws k=some v/\Rep K H t v)/\(valT kvs k).isSome=(valV ws k).isSome:=by
 unfold PKV at r
 induction r with
 | nil=>exact⟨fun t h=>by simp[valT] at h,rfl⟩
 | @cons p q ps qs h t ih=>
  by_cases e:p.1=k
  ·have e':q.1=k:=h.1.symm.trans e
   have b:valT (p::ps) k=some p.2:=by simp[valT,List.find?_cons,e]
   rw[b,jX9 e']
   exact⟨fun t ht=>by cases ht;exact⟨q.2,rfl,h.2⟩,rfl⟩
  ·have e':¬ q.1=k:=fun z=>e (h.1.trans z)
   have b:valT (p::ps) k=valT ps k:=by simp[valT,List.find?_cons,e]
   rw[b,jYa e']
   exact ih
theorem PKV.any {κ:Type} [DecidableEq κ] {K:PySem.W.Frag} {H:Hp} {kvs:List (κ×T)} {ws:List (κ×V)} (r:PKV K H kvs ws) (k:κ):(kvs.any fun kv=>decide (kv.1=k))=ws.any fun kv=>decide (kv.1=k):=by
 unfold PKV at r
 induction r with
 | nil=>rfl
 | cons h t ih=>rw[List.any_cons,List.any_cons,ih,h.1]
theorem PKV.put {κ:Type} [DecidableEq κ] {K:PySem.W.Frag} {H:Hp} {kvs:List (κ×T)} {ws:List (κ×V)} (r:PKV K H kvs ws) (k:κ) {t:T} {v:V} (rt:Rep K H t v):PKV K H (putT kvs k t) (putK ws k v):=by
 unfold putT putK
 rw[r.any k]
 by_cases e:(ws.any fun kv=>decide (kv.1=k))=true
 ·rw[if_pos e,if_pos e]
  unfold PKV at r ⊢
  clear e
  induction r with
  | nil=>exact .nil
  | @cons p q ps qs h t' ih=>
   rw[List.map_cons,List.map_cons]
   refine .cons ?_ ih
   obtain⟨h1,h2⟩:=h
   by_cases e:p.1=k
   ·rw[if_pos e,if_pos (h1.symm.trans e)];exact⟨h1,rt⟩
   ·rw[if_neg e,if_neg (fun z=>e (h1.trans z))];exact⟨h1,h2⟩
 ·rw[if_neg e,if_neg e];exact Paired.snoc r ⟨rfl,rt⟩
theorem PKV.length {κ:Type} {K:PySem.W.Frag} {H:Hp} {kvs:List (κ×T)} {ws:List (κ×V)} (r:PKV K H kvs ws):kvs.length=ws.length:=Paired.length r
noncomputable def dAt (G:Gp) (x y:T):Option (Option T):=match x with
 | .ref p=>match G p with
  | some (.dct kvs)=>match y with
   | .tup ys=>match jV9 ys with
    | some ks=>some (valT kvs ks)
    | none=>none
   | _=>none
  | some (.dck kvs)=>match jXa y with
   | some k=>some (valT kvs k)
   | none=>none
  | some (.fdc kvs)=>match y with
   | .tup ys=>match jV9 ys with
    | some ks=>some (valT kvs ks)
    | none=>none
   | _=>none
  | _=>none
 | _=>none
theorem kUk {K:PySem.W.Frag} {H:Hp} {G:Gp} {x y:T} {a b:V} {o:Option T} (hg:GRel K H G) (ra:Rep K H x a) (rb:Rep K H y b) (h:dAt G x y=some o):
  ∃p ov,a= .ref p/\DGet H p b ov/\o.isSome=ov.isSome/\∀t,o=some t->∃v,ov=some v/\Rep K H t v:=by
 unfold dAt at h
 split at h
 ·rename_i p
  cases (show a= .ref p from ra)
  split at h
  ·rename_i kvs hG
   split at h
   ·rename_i ys
    split at h
    ·rename_i ks hk
     cases h
     obtain⟨ws,h1,h2⟩:=hg p _ hG
     obtain⟨q,vs,e,h3,h4⟩:=(show ∃q vs,b= .ref q/\H q=some (.tup vs)/\Reps K H ys vs from rb)
     subst e
     exact⟨p,_,rfl,DGet.t h1 (jXs hk h3 h4),(h2.val ks).2,(h2.val ks).1⟩
    ·cases h
   ·cases h
  ·rename_i kvs hG
   split at h
   ·rename_i k hk
    cases h
    obtain⟨ws,h1,h2⟩:=hg p _ hG
    rw[jUh hk rb]
    exact⟨p,_,rfl,DGet.k h1,(h2.val k).2,(h2.val k).1⟩
   ·cases h
  ·rename_i kvs hG
   split at h
   ·rename_i ys
    split at h
    ·rename_i ks hk
     cases h
     obtain⟨ob,ws,h1,h2⟩:=(show ∃ob ws,H p=some (.frz ob (.dT ws))/\PKV K H kvs ws from hg p _ hG)
     obtain⟨q,vs,e,h3,h4⟩:=(show ∃q vs,b= .ref q/\H q=some (.tup vs)/\Reps K H ys vs from rb)
     subst e
     exact⟨p,_,rfl,.inr ⟨ws,ks,q,.inr ⟨ob,h1⟩,rfl,jXs hk h3 h4,rfl⟩,(h2.val ks).2,(h2.val ks).1⟩
    ·cases h
   ·cases h
  ·cases h
 ·cases h
def rDGet:R3:=fun x y G Q=>∃t,dAt G x y=some (some t)/\Q t G
theorem qVb (hu:X.A.units+20<cLine):Ix3 X rDGet:=by
 rintro value slice pins s τ G H x y v u Q ⟨σ,I,hs,hg⟩ ⟨a,ra,rv⟩ ⟨b,rb,ru⟩ ⟨t,hd,q⟩ hsl
 obtain⟨p,ov,e,g,_,hh⟩:=kUk hg ra rb hd
 obtain⟨w,ew,rw'⟩:=hh t rfl
 subst e;subst ew
 cases rv
 have hT:s.TypeIs (.ref p) "dict":=kUi I g
 unfold subscriptTail
 refine wpAny_bind ?_
 rw[getitemInPython_of_ne hT.not_modules]
 refine wpAny_bind (wpAny_specialOf hT PySem.F.slot_dict_getitem.lookup ?_)
 have fin:wpAny (model X.prog X.w) X.A (subscripted slice false (.ref p) u) (fun r s₃=>wpAny (model X.prog X.w) X.A (letTemporaryGo value (.ref p) r >>= fun _=>pure r) (EP3 X pins τ H Q) X.xe s₃) X.xe s:=by
  rw[hsl]
  exact wpAny_operating (qJb hu I g ru fun w' s' I' r'=>wpAny_bind (wpAny_letTemporaryGo (wpAny_pure ⟨t,G,H,.refl H,⟨σ,I',hs,hg⟩,⟨w,rw',r'⟩,q⟩)))
 first
  | exact wpAny_pure (wpAny_bind fin)
  | exact wpAny_bind (wpAny_pure (wpAny_bind fin))
  | exact wpAny_bind fin
theorem Ix3.or {r r':R3} (h:Ix3 X r) (h':Ix3 X r'):Ix3 X (fun x y G Q=>r x y G Q\/r' x y G Q):=by
 intro value slice pins s τ G H x y v u Q I rx ry q hs
 rcases q with q | q
 ·exact h value slice pins s τ G H x y v u Q I rx ry q hs
 ·exact h' value slice pins s τ G H x y v u Q I rx ry q hs
def rIxA:R3:=fun x y G Q=>rIx x y G Q\/rDGet x y G Q
theorem qVc (hu:X.A.units+20<cLine):Ix3 X rIxA:=ix_any.or (qVb hu)
def kYt:R3:=fun x y G Q=>∃o,dAt G y x=some o/\Q (.bl (!o.isSome)) G
theorem qKu (hu:X.A.units+20<cLine):Op3 X (compareOp .NotIn) kYt:=by
 rintro pins s τ G H x y v u Q ⟨σ,I,hs,hg⟩ ⟨a,ra,rv⟩ ⟨b,rb,ru⟩ ⟨o,hd,q⟩
 obtain⟨p,ov,e,g,e2,_⟩:=kUk hg rb ra hd
 subst e;cases ru
 exact qV2 hu I g rv fun s' I'=>⟨.bl _,G,H,.refl H,⟨σ,I',hs,hg⟩,⟨.bl _,rfl,by rw[<-e2];rfl⟩,q⟩
def kYp:R3:=fun x y G Q=>rInF true x y G Q\/kYt x y G Q
theorem qU3 (hu:X.A.units+20<cLine):Op3 X (compareOp .NotIn) kYp:=o_notInF.or (qKu hu)
def kJn:TE3:=fun _ G Q=>(∀p,G p=none->Q (.ref p) (gup G p (.dct [])))\/∀p,G p=none->Q (.ref p) (gup G p (.dck []))
theorem e_dct {pos:Pos}:PE3 X (.Dict [] [] pos) kJn:=by
 rintro pins s τ G H Q ⟨σ,I,hs,hg⟩ h
 rcases h with h | h
 ·exact thn (qKo pins s σ H (up X.K H Q) I fun p hp=>⟨.ref p,_,.upd (.none hp),hg.upd (.none hp) (go:= .dct []) ⟨[],jJ8,.nil⟩,rfl,h p (hg.fresh hp)⟩) fun u s' z=>jVa hs z
 ·exact thn (qKp pins s σ H (up X.K H Q) I fun p hp=>⟨.ref p,_,.upd (.none hp),hg.upd (.none hp) (go:= .dck []) ⟨[],jJ8,.nil⟩,rfl,h p (hg.fresh hp)⟩) fun u s' z=>jVa hs z
noncomputable def qQ0:T->T->T->Gp->(Gp->Prop)->Prop:=fun o i v G Q=>∃p ys ks kvs,o= .ref p/\i= .tup ys/\jV9 ys=some ks/\G p=some (.dct kvs)/\kvs.length<sizeLine/\Q (gup G p (.dct (putT kvs ks v)))
def qQ1:T->T->T->Gp->(Gp->Prop)->Prop:=fun o i v G Q=>∃p k kvs,o= .ref p/\jXa i=some k/\G p=some (.dck kvs)/\kvs.length<sizeLine/\Q (gup G p (.dck (putT kvs k v)))
theorem qUn (hu:X.A.units+20<cLine):Set3 X qQ0:=by
 rintro pins s τ G H o i v ov iv u Q ⟨σ,I,hs,hg⟩ ⟨a,ra,rv⟩ ⟨b,rb,ru⟩ ⟨c,rc,rw'⟩ ⟨p,ys,ks,kvs,eo,ei,hk,hG,hz,q⟩
 subst eo;subst ei
 cases (show a= .ref p from ra);cases rv
 obtain⟨ws,h1,h2⟩:=hg p _ hG
 obtain⟨b',vs,e,h3,h4⟩:=(show ∃q vs,b= .ref q/\H q=some (.tup vs)/\Reps X.K H ys vs from rb)
 subst e
 have h3:=jXs hk h3 h4
 have e:Ext H (upd H p (.dT (putK ws ks c))):= .upd (.dT h1)
 exact kQa hu I (DPut.t h1 h3 (by rw[<-h2.length];exact hz)) ru rw' fun s' I'=>⟨_,_,e,⟨σ,I',hs.mono e,hg.upd (.dT h1) (go:= .dct (putT kvs ks v)) ⟨_,jJ8,(h2.put ks rc).mono e⟩⟩,q⟩
theorem qUo (hu:X.A.units+20<cLine):Set3 X qQ1:=by
 rintro pins s τ G H o i v ov iv u Q ⟨σ,I,hs,hg⟩ ⟨a,ra,rv⟩ ⟨b,rb,ru⟩ ⟨c,rc,rw'⟩ ⟨p,k,kvs,eo,hk,hG,hz,q⟩
 subst eo
 cases (show a= .ref p from ra);cases rv
 obtain⟨ws,h1,h2⟩:=hg p _ hG
 have eb:=jUh hk rb
 subst eb
 have e:Ext H (upd H p (.dK (putK ws k c))):= .upd (.dK h1)
 exact kQa hu I (DPut.k h1 (by rw[<-h2.length];exact hz)) ru rw' fun s' I'=>⟨_,_,e,⟨σ,I',hs.mono e,hg.upd (.dK h1) (go:= .dck (putT kvs k v)) ⟨_,jJ8,(h2.put k rc).mono e⟩⟩,q⟩
theorem Set3.or {r r':T->T->T->Gp->(Gp->Prop)->Prop} (h:Set3 X r) (h':Set3 X r'):Set3 X (fun o i v G Q=>r o i v G Q\/r' o i v G Q):=by
 intro pins s τ G H o i v ov iv u Q I ro ri rv q
 rcases q with q | q
 ·exact h pins s τ G H o i v ov iv u Q I ro ri rv q
 ·exact h' pins s τ G H o i v ov iv u Q I ro ri rv q
def rSetA:T->T->T->Gp->(Gp->Prop)->Prop:=fun o i v G Q=>qKl o i v G Q\/qQ0 o i v G Q\/qQ1 o i v G Q
theorem s_any (hu:X.A.units+20<cLine):Set3 X rSetA:=s_list.or ((qUn hu).or (qUo hu))
end
noncomputable def kKk (G:Gp):T->Option String
 | .non=>some "NoneType"
 | .bl _=>some "bool"
 | .int _=>some "int"
 | .str _=>some "str"
 | .tup _=>some "tuple"
 | .scr _=>some "list"
 | .ref p=>match G p with
  | some (.lst _)=>some "list"
  | some (.dct _)=>some "dict"
  | some (.dck _)=>some "dict"
  | some (.fdc _)=>none
  | some (.ins _ _)=>none
  | some (.exc _)=>none
  | none=>none
 | .ty _=>none
def subT (t n:String):Option Bool:=
 if n="bool"\/n="int"\/n="str"\/n="list"\/n="tuple" then some (t == n||(t == "bool"&&n == "int")) else none
theorem qK7 (K:PySem.W.Frag) {n:String} {b:Bool} (h:subT "bool" n=some b):PySem.W.kitOne K (.type "bool") (.type n)=some b:=by
 unfold subT at h
 split at h
 ·rename_i hn
  rcases hn with rfl | rfl | rfl | rfl | rfl<;>(cases h;kernel_rfl)
 ·cases h
theorem qK6 (K:PySem.W.Frag) {n:String} {b:Bool} (h:subT "NoneType" n=some b):PySem.W.kitOne K (.type "NoneType") (.type n)=some b:=by
 unfold subT at h
 split at h
 ·rename_i hn
  rcases hn with rfl | rfl | rfl | rfl | rfl<;>(cases h;kernel_rfl)
 ·cases h
theorem qVa (K:PySem.W.Frag) {n:String} {b:Bool} (h:subT "int" n=some b):PySem.W.kitOne K (.type "int") (.type n)=some b:=by
 unfold subT at h
 split at h
 ·rename_i hn
  rcases hn with rfl | rfl | rfl | rfl | rfl<;>(cases h;kernel_rfl)
 ·cases h
theorem qU9 (K:PySem.W.Frag) {n:String} {b:Bool} (h:subT "str" n=some b):PySem.W.kitOne K (.type "str") (.type n)=some b:=by
 unfold subT at h
 split at h
 ·rename_i hn
  rcases hn with rfl | rfl | rfl | rfl | rfl<;>(cases h;kernel_rfl)
 ·cases h
theorem kZb (K:PySem.W.Frag) {n:String} {b:Bool} (h:subT "tuple" n=some b):PySem.W.kitOne K (.type "tuple") (.type n)=some b:=by
 unfold subT at h
 split at h
 ·rename_i hn
  rcases hn with rfl | rfl | rfl | rfl | rfl<;>(cases h;kernel_rfl)
 ·cases h
theorem kVe (K:PySem.W.Frag) {n:String} {b:Bool} (h:subT "list" n=some b):PySem.W.kitOne K (.type "list") (.type n)=some b:=by
 unfold subT at h
 split at h
 ·rename_i hn
  rcases hn with rfl | rfl | rfl | rfl | rfl<;>(cases h;kernel_rfl)
 ·cases h
theorem kVf (K:PySem.W.Frag) {n:String} {b:Bool} (h:subT "dict" n=some b):PySem.W.kitOne K (.type "dict") (.type n)=some b:=by
 unfold subT at h
 split at h
 ·rename_i hn
  rcases hn with rfl | rfl | rfl | rfl | rfl<;>(cases h;kernel_rfl)
 ·cases h
section
variable {X:Cx}
theorem e_ty {x:Str} {n:String} {pos:Pos} (hg:Gl X x) (hm:X.mg x=none) (hv:bootBuiltins x=some (.type n)) (hn:x≠"__name__":=by decide) (hd:(x == ("__debug__":Str))=false:=by decide):PE3 X (.Name x pos) (tC (.ty n)):=
 fun pins s τ G H Q ⟨σ,I,hs,hg'⟩ q=>thn (qUx (v:= .ty n) hg hm hv rfl hn hd pins s σ H (up X.K H Q) I ⟨.ty n,G,.refl H,hg',rfl,q⟩) fun u s' h=>jVa hs h
def kitT (t:String):List T->Option Bool
 | []=>some false
 | .ty n::r=>match subT t n with
  | some true=>some true
  | some false=>kitT t r
  | none=>none
 | _::_=>none
def isiC:Option String->T->Option Bool
 | some t,.ty n=>subT t n
 | some t,.tup cs=>kitT t cs
 | _,_=>none
def isiT (G:Gp) (x c:T):Option Bool:=isiC (kKk G x) c
def rIsi:List T->Gp->VK3->Prop:=fun xs G Q=>∃x c b,xs=[x,c]/\isiT G x c=some b/\Q (.bl b) G
theorem kZc {K:PySem.W.Frag} {H:Hp} {t:String} (ok:∀n b,subT t n=some b->PySem.W.kitOne K (.type t) (.type n)=some b):∀ {cs:List T} {vs:List V} {us:List Value} {b:Bool},Reps K H cs vs->Vals vs us->kitT t cs=some b->PySem.W.kitAny K (.type t) us=some b
 | [],_,_,_,r,q,h=>by cases r;cases q;exact h
 | c::cs,_,_,b,⟨v,ws,e,r1,r2⟩,q,h=>by
  subst e
  cases q with
  | cons q1 q2=>
   cases c with
   | ty n=>
    cases (show v= .ty n from r1)
    cases q1
    unfold kitT at h
    unfold PySem.W.kitAny
    cases e:subT t n with
    | none=>rw[e] at h;cases h
    | some k=>
     rw[e] at h
     rw[ok n k e]
     cases k with
     | true=>exact h
     | false=>exact kZc ok r2 q2 h
   | _=>cases h
theorem jQm {pins:List (Addr×Obj)} {τ:St3} {G:Gp} {H:Hp} {s:Shared} {σ:L2.St} {c:T} {cv:V} {u cu:Value} {t:String} {b:Bool} {Q:VK3} {Hh:Heap->Prop} (I:Inv X pins σ H s) (hs:SRel X.K H σ τ) (hg:GRel X.K H G)
  (Z:PySem.W.KitX X.K u (.type t) Hh) (p:Hh s.heap) (hx:u≠ .builtin "__main__.__loader__#opaque") (ok:∀n b,subT t n=some b->PySem.W.kitOne X.K (.type t) (.type n)=some b)
  (rc:Rep X.K H c cv) (ru:RelV cv cu) (h:isiC (some t) c=some b) (q:Q (.bl b) G):
  wpAny (model X.prog X.w) X.A (call (.builtin "isinstance") [u,cu]) (EP3 X pins τ H Q) X.xe s:=by
 have fin:∀tk,EP3 X pins τ H Q (.bool b) {s with toks:=tk}:=fun tk=>⟨.bl b,G,H,.refl H,⟨σ,I.tok tk,hs,hg⟩,⟨.bl b,rfl,rfl⟩,q⟩
 cases c with
 | ty n=>
  cases (show cv= .ty n from rc);cases ru
  exact PySem.W.kia_one Z I.kIn p (ok n b h) hx fin
 | tup cs=>
  obtain⟨pp,vs,e,h1,h2⟩:=(show ∃p vs,cv= .ref p/\H p=some (.tup vs)/\Reps X.K H cs vs from rc)
  subst e;cases ru
  obtain⟨its,rv,⟨⟨cls,dd,data,sl⟩,ho,hc,n,hd⟩,_⟩:=I.tuple (.of h1)
  simp only at hc hd
  subst hc hd
  exact PySem.W.kia_tup Z I.kIn p ho (kZc ok h2 rv h) hx fin
 | _=>cases h
theorem qQq:Call3 X (.builtin "isinstance") rIsi:=by
 rintro pins s τ G H xs us Q ⟨σ,I,hs,hg⟩ ⟨as,ras,rvs⟩ ⟨x,c,b,e,h,q⟩
 subst e
 obtain⟨a,cv,rfl,ra,rc⟩:=kKo ras
 obtain⟨u,cu,rfl,ru,rcu⟩:=rvs.two
 unfold isiT at h
 cases x with
 | non=>cases (show a= .non from ra);cases ru;exact jQm I hs hg PySem.W.kitx_none True.intro (fun z=>nomatch z) (fun n b=>qK6 _) rc rcu h q
 | bl k=>cases (show a= .bl k from ra);cases ru;exact jQm I hs hg PySem.W.kitx_bool True.intro (fun z=>nomatch z) (fun n b=>qK7 _) rc rcu h q
 | int k=>cases (show a= .int k from ra);obtain⟨t,rfl⟩:=ru;exact jQm I hs hg PySem.W.kitx_int True.intro (fun z=>nomatch z) (fun n b=>qVa _) rc rcu h q
 | str k=>cases (show a= .str k from ra);obtain⟨t,rfl⟩:=ru;exact jQm I hs hg PySem.W.kitx_str True.intro (fun z=>nomatch z) (fun n b=>qU9 _) rc rcu h q
 | tup ys=>
  obtain⟨p,vs,e,h1,h2⟩:=(show ∃p vs,a= .ref p/\H p=some (.tup vs)/\Reps X.K H ys vs from ra)
  subst e;cases ru
  obtain⟨its,rv,⟨o,ho,hc,_⟩,_⟩:=I.tuple (.of h1)
  exact jQm I hs hg PySem.W.kitx_tuple ⟨o,ho,hc⟩ (fun z=>nomatch z) (fun n b=>kZb _) rc rcu h q
 | scr ys=>
  obtain⟨p,vs,e,h1,h2⟩:=(show ∃p vs,a= .ref p/\FrL X.K H p vs/\Reps X.K H ys vs from ra)
  subst e;cases ru
  obtain⟨its,rv,⟨o,n,ho,hc,_⟩,_⟩:=I.list h1.sq
  exact jQm I hs hg PySem.W.kitx_list ⟨o,ho,hc⟩ (fun z=>nomatch z) (fun n b=>kVe _) rc rcu h q
 | ref p=>
  cases (show a= .ref p from ra);cases ru
  cases hG:G p with
  | none=>simp only[kKk,hG] at h;cases h
  | some g=>
   cases g with
   | lst ys=>
    simp only[kKk,hG] at h
    obtain⟨vs,h1,h2⟩:=hg.lst hG
    obtain⟨its,rv,⟨o,n,ho,hc,_⟩,_⟩:=I.list (.of h1)
    exact jQm I hs hg PySem.W.kitx_list ⟨o,ho,hc⟩ (fun z=>nomatch z) (fun n b=>kVe _) rc rcu h q
   | fdc kvs=>simp only[kKk,hG] at h;cases h
   | ins _ _=>simp only[kKk,hG] at h;cases h
   | exc _=>simp only[kKk,hG] at h;cases h
   | dct kvs=>
    simp only[kKk,hG] at h
    obtain⟨ws,h1,_⟩:=hg p _ hG
    obtain⟨_,_,xs,_,o,es,ep,h3,h4,_⟩:=(show ObjOk X.prog X.w H s.heap p (.dT ws) from I.hok p _ h1)
    exact jQm I hs hg PySem.W.kitx_dict ⟨o,h3,h4.1⟩ (fun z=>nomatch z) (fun n b=>kVf _) rc rcu h q
   | dck kvs=>
    simp only[kKk,hG] at h
    obtain⟨ws,h1,_⟩:=hg p _ hG
    obtain⟨_,_,vs,_,pp⟩:=(show ObjOk X.prog X.w H s.heap p (.dK ws) from I.hok p _ h1)
    obtain⟨o,es,ep,h3,h4,_⟩:=pp
    exact jQm I hs hg PySem.W.kitx_dict ⟨o,h3,h4.1⟩ (fun z=>nomatch z) (fun n b=>kVf _) rc rcu h q
 | ty _=>cases h
end
end L3
namespace HT
open PySem PyProof.Rows
end HT
namespace L3
open PySem PySem.Spec PyProof.Rows L2
section
variable {X:Cx}
end
section
variable {X:Cx}
def insT (xs:List T) (k:Nat) (y:T):List T:=xs.take k++y::xs.drop k
noncomputable def jXp:T->List T->Gp->VK3->Prop:=fun x as G Q=>∃p xs k y,x= .ref p/\as=[.int k,y]/\G p=some (.lst xs)/\0<=k/\k<=xs.length/\xs.length<sizeLine/\Q .non (gup G p (.lst (insT xs k.toNat y)))
theorem kJ5:Mt3 X "list.insert" jXp:=by
 rintro pins s τ G H x as v us Q ⟨σ,I,hs,hg⟩ ⟨a,ra,rv⟩ ⟨bs,rbs,rus⟩ ⟨p,xs,k,y,ex,ea,hp,k0,k1,hz,q⟩
 subst ex;subst ea
 cases (show a= .ref p from ra);cases rv
 obtain⟨b1,b2,rfl,r1,r2⟩:=kKo rbs
 cases (show b1= .int k from r1)
 obtain⟨u1,u2,rfl,ru1,ru2⟩:=rus.two
 obtain⟨t,rfl⟩:=ru1
 obtain⟨vs,h1,h2⟩:=hg.lst hp
 obtain⟨z,its,n,r,hl,e⟩:=I.lstM h1
 have hlen:=h2.length
 have hfit:¬ (!Builtin.List.listFitsIndex k)=true:=by
  have h63:=kK0
  rw[fitsIndex_both (by omega) (by omega)]
  exact Bool.false_ne_true
 refine call_meets F.slot_list_insert ⟨_,e,rfl⟩ F.entry_list_insert (F.args_list_insert_3 _ _ _) (AutoSeq1.list_insert_list_int_val_1 p its.toArray n k t u2 hfit (by rw[List.size_toArray];omega)) ⟨e,?_⟩
 have e2:Ext H (upd H p (.lst (vs.take k.toNat++b2::vs.drop k.toNat))):= .upd (.lst h1)
 refine⟨.non,_,_,e2,⟨σ,I.lset (its':=its.take k.toNat++u2::its.drop k.toNat) h1 e ?_ ((r.take _).append (.cons ru2 (r.drop _))) ?_,hs.mono e2,hg.lstNew (xs:=insT xs k.toNat y) ((h2.take _).append ⟨b2,_,rfl,r2,h2.drop _⟩) (.lst h1)⟩,⟨.non,rfl,rfl⟩,q⟩
 ·have hk:¬ k<0:=by omega
  have hm:min k.toNat its.toArray.size=k.toNat:=by rw[List.size_toArray];omega
  simp only[hk,if_false,hm]
  apply Array.ext'
  simp[Array.toList_extract]
  rw[List.take_of_length_le (Nat.le_of_eq (by simp))]
 ·simp only[List.length_append,List.length_cons,List.length_take,List.length_drop]
  omega
def kYu:T->List T->Gp->VK3->Prop:=fun x as G Q=>∃p xs y,x= .ref p/\as=[y]/\G p=some (.lst xs)/\jVy y=true/\xs.all jVy=true/\Q (.int (xs.countP fun z=>eqT z y)) G
theorem kQb {K:PySem.W.Frag} {H:Hp} {y:T} {b:V} (ry:Rep K H y b) (fy:jVy y=true):∀ {xs:List T} {vs:List V} {us:List Value},Reps K H xs vs->Vals vs us->xs.all jVy=true->us.countP (eqU b)=xs.countP fun z=>eqT z y
 | [],_,_,r,q,_=>by cases r;cases q;rfl
 | x::xs,_,_,⟨v,ws,e,r1,r2⟩,q,f=>by
  subst e
  cases q with
  | cons q1 q2=>
   rw[List.all_cons,Bool.and_eq_true] at f
   rw[List.countP_cons,List.countP_cons,kQb ry fy r2 q2 f.2,kZ0 q1 (jYl r1 f.1),kZt r1 ry f.1 fy]
theorem qU5:Mt3 X "list.count" kYu:=by
 rintro pins s τ G H x as v us Q ⟨σ,I,hs,hg⟩ ⟨a,ra,rv⟩ ⟨bs,rbs,rus⟩ ⟨p,xs,y,ex,ea,hp,fy,fs,q⟩
 subst ex;subst ea
 cases (show a= .ref p from ra);cases rv
 obtain⟨b,rfl,rb⟩:=jVh rbs
 obtain⟨u,rfl,ru⟩:=rus.one
 obtain⟨vs,h1,h2⟩:=hg.lst hp
 obtain⟨z,its,n,r,hl,e⟩:=I.lstM h1
 have fl:=(kJ9 rb fy h2 fs).1
 refine call_meets F.slot_list_count ⟨_,e,rfl⟩ F.entry_list_count (F.args_list_count_2 _ _) (SeqAt.list_countAt p its.toArray n none #[] u (eqU b)) ⟨e,fun w hw=>jYi ru (jYl rb fy) r fl w (by simpa using hw),?_⟩
 refine⟨.int _,G,H,.refl H,⟨σ,I.tok _,hs,hg⟩,⟨.int _,rfl,s.toks,?_⟩,q⟩
 rw[<-kQb rb fy h2 r fs]
def kUm:List T->Option Bool
 | []=>some true
 | .bl b::r=>match kUm r with
  | some c=>some (b&&c)
  | none=>none
 | _::_=>none
def rAll:List T->Gp->VK3->Prop:=fun as G Q=>∃p xs b,as=[.ref p]/\G p=some (.lst xs)/\kUm xs=some b/\Q (.bl b) G
theorem kQk:∀ {xs:List T} {b:Bool},kUm xs=some b->∃bs:List Bool,xs=bs.map T.bl/\b=bs.all (fun x=>x)
 | [],b,h=>by cases h;exact⟨[],rfl,rfl⟩
 | .bl c::r,b,h=>by
  unfold kUm at h
  cases e:kUm r with
  | none=>rw[e] at h;cases h
  | some d=>
   rw[e] at h;cases h
   obtain⟨bs,h1,h2⟩:=kQk e
   exact⟨c::bs,by rw[h1];rfl,by rw[h2];rfl⟩
 | .non::_,_,h=>by cases h
 | .int _::_,_,h=>by cases h
 | .str _::_,_,h=>by cases h
 | .tup _::_,_,h=>by cases h
 | .scr _::_,_,h=>by cases h
 | .ref _::_,_,h=>by cases h
 | .ty _::_,_,h=>by cases h
theorem kU3 {K:PySem.W.Frag} {H:Hp}:∀ {bs:List Bool} {vs:List V} {us:List Value},Reps K H (bs.map T.bl) vs->Vals vs us->us=bs.map Value.bool
 | [],_,_,h,q=>by cases h;cases q;rfl
 | n::ns,_,_,⟨v,ws,e,r,rs⟩,q=>by
  subst e;cases (show v= .bl n from r)
  cases q with
  | cons q1 q2=>cases q1;rw[kU3 rs q2];rfl
theorem kQj:∀(bs:List Bool),bs.all (fun x=>x)=(List.range bs.length).all fun i=>bs.getD i true
 | []=>rfl
 | b::bs=>by
  rw[List.all_cons,kQj bs,List.length_cons,List.range_succ_eq_map,List.all_cons,List.all_map]
  simp[Function.comp_def,List.getD]
theorem c_all (hc:X.calm=true):Call3 X (.builtin "all") rAll:=by
 rintro pins s τ G H as us Q ⟨σ,I,hs,hg⟩ ⟨bs',rbs,rus⟩ ⟨p,xs,b,e,hp,hb,q⟩
 subst e
 obtain⟨a,rfl,ra⟩:=jVh rbs
 cases (show a= .ref p from ra)
 obtain⟨u,rfl,ru⟩:=rus.one
 cases ru
 obtain⟨vs,h1,h2⟩:=hg.lst hp
 obtain⟨bs,ex,eb⟩:=kQk hb
 subst ex
 obtain⟨its,rv,pl,hz⟩:=I.list (.of h1)
 have eit:=kU3 h2 rv
 subst eit
 refine call_all_walk (wpAny_pyIter_list pl.isList ?_)
 have hne:p≠s.heap.objs.size:=by obtain⟨o,n,ho,_⟩:=pl;exact Nat.ne_of_lt (Heap.lt_size ho)
 refine⟨s.heap.objs.size,[s.heap.objs.size,p],[s.heap.objs.size],(bs.map Value.bool).toArray.size,_,_,fun i=>bs.getD i true,rfl,Walks.list (A:=X.A.in1) (show X.A.in1.handled=none from I.ok.hd hc) s.heap.objs.size p hne (bs.map Value.bool).toArray,⟨⟨_,Heap.get?_push_size _ rfl,rfl,rfl⟩,pl.isList.push _⟩,?_,?_⟩
 ·intro i v s' Q' E' hP hQ
  have hP':(bs.map Value.bool)[i]? =some v:=by simpa using hP
  rw[List.getElem?_map] at hP'
  cases e:bs[i]? with
  | none=>rw[e] at hP';cases hP'
  | some c=>
   rw[e] at hP';cases hP'
   have:bs.getD i true=c:=by simp[List.getD,e]
   have hQ':Q' (bs.getD i true) s':=hQ
   rw[this] at hQ'
   exact wpAny_truthy_bool hQ'
 ·intro h' tk hk
  have hk2:∀b o,s.heap.get? b=some o->h'.get? b=some o:=fun b o e=>hk b o (by simpa using Nat.ne_of_lt (Heap.lt_size e)) (Heap.get?_push_of_some _ e)
  refine⟨.bl b,G,H,.refl H,⟨σ,I.kept hk2,hs,hg⟩,⟨.bl b,rfl,?_⟩,q⟩
  rw[eb,kQj]
  simp
  rfl
end
structure Cal (P:Program) (w:World) (K:PySem.W.Frag) (mg:Str->Option Value) (base:Heap) (k:Nat) (x:Str) (ps:List Str) (sp:Sp3):Prop where
 ex:∃f fd,Fn3 P w K mg base k f fd ps sp/\mg x=some (.ref f)/\PySem.W.keepIn K (.ref f)=true/\Binds K fd ps []
 mono:Mono sp
 len:∀xs G Q,sp xs G Q->xs.length=ps.length
theorem jJ3 {X:Cx} {k:Nat} {ps:List Str} {sp:Sp3} {x:Str} {p pos:Pos} {e:Expr} {es:List Expr} {t:TA3} (C:Cal X.prog X.w X.K X.mg X.base k x ps sp) (hr:Room k X.A) (ha:PA3 X (e::es) t) (hg:Gl X x:=by rfl)
  (hdb:(x == ("__debug__":Str))=false:=by decide) (he:starEach (e::es) X.env=(false,eval e X.env)::starEach es X.env:=by rfl) (hpl:(backTo pos (starEach es X.env)).any (·.1)=false:=by rfl):
  PE3 X (.Call (.Name x p) (e::es) [] pos) (jJt sp t):=by
 intro pins s τ G H Q I h
 obtain⟨f,fd,F,hm,hk,hb⟩:=C.ex
 obtain⟨σ0,I0,hs0,hg0⟩:=id I
 refine wpAny_Call_Name_kw (jVw I0 hg hm ?_ hdb)
 refine PySem.W.callWith_K (h₀:=X.base) I0.ok.mod.kin hk (thn (ha pos pins s τ G H _ I h) fun us s1 w_=>w_.el fun xs G1 H1 e1 i_ r_ q=>i_.el fun σ I1 hs1 hg1=>r_.el fun as ras rvs=>⟨I1.kIn,?_⟩) he hpl
 refine thn (kYa (dvs:=[]) (ds:=[]) (E:=E0) (Q:=up X.K H1 Q) F hr hb .nil qKq I1 rvs ?_) fun u s' z=>(jVa hs1 z).ext e1
 rw[List.append_nil]
 exact⟨by rw[<-ras.length];exact C.len _ _ _ q,xs,G1,ras,hg1,C.mono _ _ _ _ (fun t G' hq v H' e g r=>⟨t,G',e,g,r,hq⟩) q⟩
def qQz:=kYr
theorem qV5 {X:Cx}:Call3 X (.type "list") qQz:=c_list
end L3
namespace L3
open PySem PySem.Spec PyProof.Rows
inductive Res where
 | val (t:T) | newL (xs:List T)
def fin3:Res->Gp->VK3->Prop
 | .val t,G,Q=>Q t G
 | .newL xs,G,Q=>∀p,G p=none->Q (.ref p) (gup G p (.lst xs))
theorem Op3.imp {X:L2.Cx} {f:Value->Value->Sem Value} {r r':R3} (h:Op3 X f r) (i:∀x y G Q,r' x y G Q->r x y G Q):Op3 X f r':=fun pins s τ G H x y v u Q I rx ry q=>h pins s τ G H x y v u Q I rx ry (i x y G Q q)
theorem Ix3.imp {X:L2.Cx} {r r':R3} (h:Ix3 X r) (i:∀x y G Q,r' x y G Q->r x y G Q):Ix3 X r':=fun a b pins s τ G H x y v u Q I rx ry q hs=>h a b pins s τ G H x y v u Q I rx ry (i x y G Q q) hs
theorem Set3.imp {X:L2.Cx} {r r':T->T->T->Gp->(Gp->Prop)->Prop} (h:Set3 X r) (i:∀o j v G Q,r' o j v G Q->r o j v G Q):Set3 X r':=fun pins s τ G H o j v a b c Q I ro rj rv q=>h pins s τ G H o j v a b c Q I ro rj rv (i o j v G Q q)
noncomputable def addR (G:Gp):T->T->Option Res
 | .int i,.int j=>some (.val (.int (i+j)))
 | .ref p,.ref q=>match G p,G q with
  | some (.lst xs),some (.lst ys)=>if xs.length+ys.length<=sizeLine then some (.newL (xs++ys)) else none
  | _,_=>none
 | .tup xs,.tup ys=>if xs.length≠0/\xs.length+ys.length<=sizeLine then some (.val (.tup (xs++ys))) else none
 | _,_=>none
def jKw:R3:=fun x y G Q=>∃r,addR G x y=some r/\fin3 r G Q
theorem add_F {x y:T} {G:Gp} {Q:VK3} (h:jKw x y G Q):rAddA x y G Q:=by
 obtain⟨r,hr,q⟩:=h
 unfold addR at hr
 split at hr
 ·cases hr;exact .inl ⟨_,_,rfl,rfl,q⟩
 ·rename_i p q'
  split at hr
  ·rename_i xs ys h1 h2
   split at hr
   ·rename_i hz;cases hr;exact .inr (.inl ⟨p,q',xs,ys,rfl,rfl,h1,h2,hz,q⟩)
   ·cases hr
  ·cases hr
 ·rename_i xs ys
  split at hr
  ·rename_i hz;cases hr;exact .inr (.inr ⟨xs,ys,rfl,rfl,fun z=>hz.1 (by rw[z];rfl),hz.2,q⟩)
  ·cases hr
 ·cases hr
theorem o_addF {X:L2.Cx}:Op3 X (binaryOp .Add) jKw:=o_addA.imp fun _ _ _ _=>add_F
noncomputable def mulR (G:Gp):T->T->Option Res
 | .int i,.int j=>some (.val (.int (i*j)))
 | .ref p,.int n=>match G p with
  | some (.lst xs)=>if n.toNat * xs.length<=sizeLine/\n<2^62/\ -(2^62)<n then some (.newL (List.replicate n.toNat xs).flatten) else none
  | _=>none
 | _,_=>none
def mulC:T->T->Prop
 | .int i,.int j=>L2.CMul i j
 | _,_=>True
def jU7:R3:=fun x y G Q=>∃r,mulR G x y=some r/\mulC x y/\fin3 r G Q
theorem mul_F {x y:T} {G:Gp} {Q:VK3} (h:jU7 x y G Q):rMulA x y G Q:=by
 obtain⟨r,hr,c,q⟩:=h
 unfold mulR at hr
 split at hr
 ·cases hr;exact .inl ⟨_,_,rfl,rfl,c,q⟩
 ·rename_i p n
  split at hr
  ·rename_i xs h1
   split at hr
   ·rename_i hz;cases hr;exact .inr ⟨p,xs,n,rfl,rfl,h1,hz.1,hz.2.1,hz.2.2,q⟩
   ·cases hr
  ·cases hr
 ·cases hr
theorem jX0 {X:L2.Cx}:Op3 X (binaryOp .Mult) jU7:=o_mulA.imp fun _ _ _ _=>mul_F
def ixR (G:Gp) (x y:T):Option T:=match seqT G x with
 | some xs=>match y with
  | .int i=>L2.atI xs i
  | _=>none
 | none=>match dAt G x y with
  | some o=>o
  | none=>none
def rIxF:R3:=fun x y G Q=>∃t,ixR G x y=some t/\Q t G
theorem ix_F' {x y:T} {G:Gp} {Q:VK3} (h:rIxF x y G Q):rIxA x y G Q:=by
 obtain⟨t,ht,q⟩:=h
 unfold ixR at ht
 split at ht
 ·rename_i xs hx
  split at ht
  ·rename_i i;exact .inl ⟨xs,i,t,hx,rfl,ht,q⟩
  ·cases ht
 ·split at ht
  ·rename_i o ho;subst ht;exact .inr ⟨t,ho,q⟩
  ·cases ht
theorem ix_F {X:L2.Cx} (hu:X.A.units+20<cLine):Ix3 X rIxF:=(qVc hu).imp fun _ _ _ _=>ix_F'
noncomputable def setR (G:Gp) (o i v:T):Option Gp:=match o with
 | .ref p=>match G p with
  | some (.lst xs)=>match i with
   | .int k=>match L2.ixN xs.length k with
    | some j=>some (gup G p (.lst (xs.set j v)))
    | none=>none
   | _=>none
  | some (.dct kvs)=>match i with
   | .tup ys=>match jV9 ys with
    | some ks=>if kvs.length<sizeLine then some (gup G p (.dct (putT kvs ks v))) else none
    | none=>none
   | _=>none
  | some (.dck kvs)=>match jXa i with
   | some k=>if kvs.length<sizeLine then some (gup G p (.dck (putT kvs k v))) else none
   | none=>none
  | some (.fdc _)=>none
  | some (.ins _ _)=>none
  | some (.exc _)=>none
  | none=>none
 | _=>none
def jY8:T->T->T->Gp->(Gp->Prop)->Prop:=fun o i v G Q=>∃G',setR G o i v=some G'/\Q G'
theorem set_F' {o i v:T} {G:Gp} {Q:Gp->Prop} (h:jY8 o i v G Q):rSetA o i v G Q:=by
 obtain⟨G',hr,q⟩:=h
 unfold setR at hr
 split at hr
 ·rename_i p
  split at hr
  ·rename_i xs h1
   split at hr
   ·rename_i k
    split at hr
    ·rename_i j hj;cases hr;exact .inl ⟨p,xs,k,j,rfl,rfl,h1,hj,q⟩
    ·cases hr
   ·cases hr
  ·rename_i kvs h1
   split at hr
   ·rename_i ys
    split at hr
    ·rename_i ks hk
     split at hr
     ·rename_i hz;cases hr;exact .inr (.inl ⟨p,ys,ks,kvs,rfl,rfl,hk,h1,hz,q⟩)
     ·cases hr
    ·cases hr
   ·cases hr
  ·rename_i kvs h1
   split at hr
   ·rename_i k hk
    split at hr
    ·rename_i hz;cases hr;exact .inr (.inr ⟨p,k,kvs,rfl,hk,h1,hz,q⟩)
    ·cases hr
   ·cases hr
  ·cases hr
  ·cases hr
  ·cases hr
  ·cases hr
 ·cases hr
theorem s_F {X:L2.Cx} (hu:X.A.units+20<cLine):Set3 X jY8:=(s_any hu).imp fun _ _ _ _ _=>set_F'
noncomputable def rLeF:R3:=fun x y G Q=>∃b,(match x,y with
 | .int i,.int j=>some (decide (i<=j))
 | .tup [.int a,.int b],.tup [.int c,.int d]=>some (HT.lexLe [a,b] [c,d])
 | _,_=>none)=some b/\Q (.bl b) G
theorem le_F' {x y:T} {G:Gp} {Q:VK3} (h:rLeF x y G Q):rLeA x y G Q:=by
 obtain⟨b,hb,q⟩:=h
 split at hb
 ·cases hb;exact .inl ⟨_,_,rfl,rfl,q⟩
 ·cases hb;exact .inr ⟨_,_,rfl,rfl,q⟩
 ·cases hb
theorem o_leF {X:L2.Cx} (hu:X.A.units+20<cLine):Op3 X (compareOp .LtE) rLeF:=(o_leA hu).imp fun _ _ _ _=>le_F'
noncomputable def inR (G:Gp) (x y:T):Option Bool:=match seqT G y with
 | some xs=>if jVy x=true/\xs.all jVy=true then some (inT x xs) else none
 | none=>match dAt G y x with
  | some o=>some o.isSome
  | none=>none
def jQy:R3:=fun x y G Q=>∃b,inR G x y=some b/\Q (.bl (!b)) G
theorem qKw {x y:T} {G:Gp} {Q:VK3} (h:jQy x y G Q):kYp x y G Q:=by
 obtain⟨b,hb,q⟩:=h
 unfold inR at hb
 split at hb
 ·rename_i xs hx
  split at hb
  ·rename_i hc;cases hb;exact .inl ⟨xs,hx,hc.1,hc.2,q⟩
  ·cases hb
 ·split at hb
  ·rename_i o ho;cases hb;exact .inr ⟨o,ho,q⟩
  ·cases hb
theorem jZd {X:L2.Cx} (hu:X.A.units+20<cLine):Op3 X (compareOp .NotIn) jQy:=(qU3 hu).imp fun _ _ _ _=>qKw
end L3
namespace L2
open PySem PySem.Spec PyProof.Rows
section
variable {X:Cx} {tg:Expr}
end
end L2
namespace L3
open PySem PySem.Spec PyProof.Rows L2
def Off (cs:List Addr) (g g':Heap):Prop:=∀c,c∉cs->∀o,g.get? c=some o->g'.get? c=some o
theorem Off.then {cs:List Addr} {g g' g'':Heap} (p:Off cs g g') (q:Off cs g' g''):Off cs g g'':=fun c n o e=>q c n o (p c n o e)
theorem Off.ext {cs:List Addr} {c:Addr} {g g':Heap} (h:Heap.ExtBut c g g') (m:c∈cs):Off cs g g':=fun b n o e=>h b o (fun q=>n (q▸m)) e
theorem Off.one {cs:List Addr} {c:Addr} {g g':Heap} (h:Heap.SameBut c g g') (m:c∈cs):Off cs g g':= .ext h.extBut m
theorem Off.new (cs:List Addr) (g:Heap) (o:Obj):Off cs g (g.push o):=fun _ _ _ e=>Heap.get?_push_of_some _ e
theorem Off.at {cs:List Addr} {g g':Heap} (p:Off cs g g') {c:Addr} {o:Obj} (n:c∉cs) (e:g.get? c=some o):g'.get? c=some o:=p c n o e
def jZs (cs:List Addr) (S:Heap->Prop):Prop:=∀g g',Off cs g g'->S g->S g'
noncomputable def Draw (P:Program) (w:World) (A:Around) (i:Addr) (r:Option Value) (S S':Heap->Prop):Prop:=
 ∀(s:Shared) (Q E:Value->Shared->Prop),S s.heap->
  (∀x g,r=some x->S' g->Heap.SameBut i s.heap g->Q x {s with heap:=g})->
  (∀g e o,r=none->Heap.ExtBut i s.heap g->g.get? e=some o->o.cls= .type "StopIteration"->E (.ref e) {s with heap:=g})->
  wpAny (model P w) A (Builtin.SmallTypes.nextOf (.ref i)) Q E s
def OnTup (i t:Addr) (k:Nat) (xs:Array Value) (h:Heap):Prop:=h.IsTupleIter i t k/\h.IsTuple t xs
theorem OnTup.still {cs:List Addr} {i t:Addr} {k:Nat} {xs:Array Value} (hi:i∉cs) (ht:t∉cs):jZs cs (OnTup i t k xs):=
 fun _ _ p ⟨⟨o,e,c⟩,⟨q,e',c'⟩⟩=>⟨⟨o,p.at hi e,c⟩,⟨q,p.at ht e',c'⟩⟩
theorem jYb {P:Program} {w:World} {A:Around} {i t:Addr} {k:Nat} {xs:Array Value} (hh:A.handled=none) (ne:t≠i):Draw P w A i xs[k]? (OnTup i t k xs) (OnTup i t (k+1) xs):=by
 rintro s Q E ⟨⟨o,ho,hc,hd⟩,q,hq,hqc,n,hn⟩ item stop
 have ty:s.TypeIs (.ref i) "tuple_iterator":=⟨o,ho,hc⟩
 refine wpAny_bind (wpAny_callSpecial?_slot (name:=Str.ofString "__next__") ty F.slot_tuple_iterator_next (wpAny_call_entry F.slot_tuple_iterator_next ty F.entry_tuple_iterator_next ?_ (F.args_tuple_iterator_next_1 _)))
 refine (show wpAny _ _ (field (.ref i) 0 >>= _) _ _ s from wpAny_bind (wpAny_field ho hd (x:= .ref t) rfl ?_))
 refine (show wpAny _ _ (if (Value.ref t == Value.none)=true then _ else field (.ref i) 1 >>= _) _ _ s from ?_)
 rw[if_neg (by exact Bool.false_ne_true)]
 refine wpAny_bind (wpAny_field ho hd (x:= .int k 0) rfl (show wpAny _ _ (seqItems? (.ref t) >>= _) _ _ s from wpAny_bind (wpAny_seqItems hq hn ?_)))
 cases hx:xs[k]? with
 | some x=>
  simp only[hx,Int.toNat_natCast]
  have up:OnTup i t (k+1) xs (s.heap.update i (Obj.mapFields (·.setIfInBounds 1 (rawInt ((k:Int)+1))))):=by
   refine⟨⟨_,Heap.get?_update_self _ ho (Obj.isFreed_of_fields (Obj.data_mapFields hd _)),(Obj.cls_mapFields ..).trans hc,?_⟩,q,(Heap.SameBut.update ..).extBut t q ne hq,hqc,n,hn⟩
   rw[Obj.data_mapFields hd];simp[rawInt]
  exact wpAny_bind (wpAny_setField ho hd (by simp) (wpAny_pure ⟨x,rfl,wpAny_pure (item x _ hx up (Heap.SameBut.update ..))⟩))
 | none=>
  simp only[hx,Int.toNat_natCast]
  refine wpAny_bind (wpAny_rule (wpAny_bind (wpAny_setField ho hd (by simp) (show wpAny _ _ (newExc (.type "StopIteration") [] >>= _) _ _ _ from wpAny_bind ?_))))
  simp only[newExc,newTuple,raiseNew]
  refine wpAny_bind (wpAny_newObj_type (wpAny_bind (m:=firstArgMember _ _) (wpAny_of_eq (a:=Value.none) (by first | rfl | (simp only[firstArgMember];rfl)) (wpAny_newObj_type ?_ (by size_fits)))) (by size_fits))
  refine wpAny_bind (wpAny_handled ?_);rw[show A.in1.handled=none from hh]
  exact wpAny_bind (wpAny_pure (wpAny_throw (stop _ _ _ hx (((Heap.SameBut.update ..).extBut.push _).push _) (Heap.get?_push_size _ rfl) rfl)))
structure ZipAt (z TI TO i j:Addr):Prop where
 nd:[z,TI,TO,i,j].Nodup
theorem qJw {P:Program} {w:World} {A:Around} {z TI TO i j:Addr} {r1 r2:Option Value} {S S' U U':Heap->Prop} {a b:Value} {s:Shared} {Q E:Value->Shared->Prop}
  (D1:Draw P w A i r1 S S') (D2:Draw P w A j r2 U U') (nd:ZipAt z TI TO i j) (s1:jZs [z,TO,j] S) (s1':jZs [z,TO,j] S') (s2:jZs [z,TO,i] U) (s2':jZs [z,TO,i] U')
  (hz:IsZip s.heap z TI TO .none) (hTI:IsPair s.heap TI (.ref i) (.ref j)) (hTO:IsPair s.heap TO a b) (h1:S s.heap) (h2:U s.heap)
  (item:∀x y g,r1=some x->r2=some y->IsZip g z TI TO (rawInt s.heap.objs.size)->IsPair g TO x y->S' g->U' g->IsPair g s.heap.objs.size x y->Off [z,TO,i,j] s.heap g->Q (.ref s.heap.objs.size) {s with heap:=g})
  (stop:∀g e o,(r1=none\/r2=none)->Off [z,TO,i,j] s.heap g->g.get? e=some o->o.cls= .type "StopIteration"->E (.ref e) {s with heap:=g}):
  wpAny (model P w) A (Builtin.«zip.__next__» ⟨[.ref z],[]⟩) (fun f s'=>∃v,f= .done (.ret v)/\Q v s') E s:=by
 have ap:=nd.nd
 simp only[List.nodup_cons,List.mem_cons,List.not_mem_nil,or_false,not_or] at ap
 obtain⟨⟨zTI,zTO,zi,zj⟩,⟨TITO,TIi,TIj⟩,⟨TOi,TOj⟩,ij,_⟩:=ap
 refine (show wpAny _ _ (field (.ref z) 2 >>= _) _ _ _ from wpAny_bind (wpAny_field hz rfl (x:= .bool false) rfl (show wpAny _ _ (field (.ref z) 3 >>= _) _ _ _ from wpAny_bind (wpAny_field hz rfl (x:= .ref TI) rfl (wpAny_bind (wpAny_seqItems hTI rfl ?_))))))
 refine (show wpAny _ _ (Builtin.SmallTypes.ownedTupleIsFree (.ref z) >>= _) _ _ _ from wpAny_bind ?_)
 unfold Builtin.SmallTypes.ownedTupleIsFree;refine wpAny_bind (wpAny_field hz rfl (x:= .none) rfl (wpAny_pure ?_))
 rw[if_pos rfl]
 refine wpAny_bind (wpAny_rule (wpAny_bind (wpAny_field hz rfl (x:= .ref TO) rfl (wpAny_bind (wpAny_setField_rec hz (by simp) fun g1 hz1 b1=>wpAny_bind ?_)))))
 replace hz1:IsZip g1 z TI TO .ellipsis:=hz1
 have o1:Off [z,TO,i,j] s.heap g1:= .one b1 (by simp)
 simp only[List.forIn_cons,List.forIn_nil,List.zipIdx_cons,List.zipIdx_nil]
 refine wpAny_bind (wpAny_bind (wpAny_onRaise (show wpAny _ _ (Builtin.SmallTypes.nextOf (.ref i) >>= _) _ _ _ from wpAny_bind (D1 _ _ _ (s1 _ _ (.one b1 (by simp)) h1) (fun x g2 ex S2 b2=>wpAny_pure ?_) fun g2 e o en b2 he hc=> ?_))))
 ·have o2:Off [z,TO,i,j] s.heap g2:=o1.then (.one b2 (by simp))
  have hz2:IsZip g2 z TI TO .ellipsis:=b2.extBut _ _ zi hz1
  have hp2:IsPair g2 TO a b:=b2.extBut _ _ TOi (b1.extBut _ _ (Ne.symm zTO) hTO)
  refine wpAny_bind (wpAny_seqItems hp2 rfl (wpAny_bind (wpAny_updateSeq_pair hp2 fun g3 hp3 b3=>wpAny_bind (wpAny_letGo (wpAny_pure ?_)))))
  replace hp3:IsPair g3 TO x b:=hp3
  have o3:Off [z,TO,i,j] s.heap g3:=o2.then (.one b3 (by simp))
  have hz3:IsZip g3 z TI TO .ellipsis:=b3.extBut _ _ zTO hz2
  have U3:U g3:=s2 _ _ (((Off.one b1 (by simp)).then (.one b2 (by simp))).then (.one b3 (by simp))) h2
  refine wpAny_bind (wpAny_bind (wpAny_onRaise (show wpAny _ _ (Builtin.SmallTypes.nextOf (.ref j) >>= _) _ _ _ from wpAny_bind (D2 _ _ _ U3 (fun y g4 ey U4 b4=>wpAny_pure ?_) fun g4 e o en b4 he hc=> ?_))))
  ·have hp4:IsPair g4 TO x b:=b4.extBut _ _ TOj hp3
   refine wpAny_bind (wpAny_seqItems hp4 rfl (wpAny_bind (wpAny_updateSeq_pair hp4 fun g5 hp5 b5=>wpAny_bind (wpAny_letGo (wpAny_pure (wpAny_pure ?_))))))
   replace hp5:IsPair g5 TO x y:=hp5
   have o5:Off [z,TO,i,j] s.heap g5:=(o3.then (.one b4 (by simp))).then (.one b5 (by simp))
   have hz5:IsZip g5 z TI TO .ellipsis:=b5.extBut _ _ zTO (b4.extBut _ _ zj hz3)
   have S5:S' g5:=s1' _ _ (((Off.one b3 (by simp)).then (.one b4 (by simp))).then (.one b5 (by simp))) S2
   have U5:U' g5:=s2' _ _ (.one b5 (by simp)) U4
   have n5:g5.objs.size=s.heap.objs.size:=by rw[b5.1,b4.1,b3.1,b2.1,b1.1]
   refine wpAny_bind (wpAny_seqItems hp5 rfl (wpAny_bind (wpAny_newTuple ?_)))
   refine (show wpAny _ _ (Builtin.SmallTypes.ownedTupleHandOut (.ref z) (.ref g5.objs.size) >>= _) _ _ _ from wpAny_bind ?_)
   unfold Builtin.SmallTypes.ownedTupleHandOut;refine wpAny_bind (wpAny_setField_rec (show IsZip (g5.push {cls:= .type "tuple",data:= .seq #[x,y]}) z TI TO .ellipsis from Heap.get?_push_of_some _ hz5) (by simp) fun g6 hz6 b6=> ?_)
   refine wpAny_setField_rec hz6 (by simp) fun g7 hz7 b7=>wpAny_pure ⟨_,rfl,?_⟩
   have o7:Off [z] g5 g7:=((Off.new _ _ _).then (.one b6 (by simp))).then (.one b7 (by simp))
   have zl:z<g5.objs.size:=Heap.lt_size hz5
   have new:IsPair g7 g5.objs.size x y:=b7.extBut _ _ (Nat.ne_of_gt zl) (b6.extBut _ _ (Nat.ne_of_gt zl) (Heap.get?_push_size _ rfl))
   replace hz7:IsZip g7 z TI TO (rawInt g5.objs.size):=hz7
   show Q (.ref g5.objs.size) _
   rw[n5] at hz7 new ⊢
   have w1:∀ {cs:List Addr},z∈cs->Off cs g5 g7:=fun m c n=>o7 c (by simp only[List.mem_singleton];exact fun q=>n (q▸m))
   exact item x y g7 ex ey hz7 (o7.at (by simpa using Ne.symm zTO) hp5) (s1' _ _ (w1 (by simp)) S5) (s2' _ _ (w1 (by simp)) U5) new (o5.then (w1 (by simp)))
  ·have hz4:IsZip g4 z TI TO .ellipsis:=b4 _ _ zj hz3
   have ez:e≠z:=fun q=>by subst q;rw[hz4] at he;cases he;simp at hc
   exact wpAny_setField_rec hz4 (by simp) fun g5 _ b5=>stop g5 e o (.inr en) ((o3.then (.ext b4 (by simp))).then (.one b5 (by simp))) (b5.extBut _ _ ez he) hc
 ·have hz2:IsZip g2 z TI TO .ellipsis:=b2 _ _ zi hz1
  have ez:e≠z:=fun q=>by subst q;rw[hz2] at he;cases he;simp at hc
  exact wpAny_setField_rec hz2 (by simp) fun g3 _ b3=>stop g3 e o (.inl en) ((o1.then (.ext b2 (by simp))).then (.one b3 (by simp))) (b3.extBut _ _ ez he) hc
theorem kUq {P:Program} {w:World} {A:Around} {z TI TO i j:Addr} {r1 r2:Option Value} {S S' U U':Heap->Prop} {a b:Value} {s:Shared} {Q:Option Value->Shared->Prop} {E:Value->Shared->Prop}
  (D1:Draw P w A.in1 i r1 S S') (D2:Draw P w A.in1 j r2 U U') (nd:ZipAt z TI TO i j) (s1:jZs [z,TO,j] S) (s1':jZs [z,TO,j] S') (s2:jZs [z,TO,i] U) (s2':jZs [z,TO,i] U')
  (hz:IsZip s.heap z TI TO .none) (hTI:IsPair s.heap TI (.ref i) (.ref j)) (hTO:IsPair s.heap TO a b) (h1:S s.heap) (h2:U s.heap)
  (item:∀x y g,r1=some x->r2=some y->IsZip g z TI TO (rawInt s.heap.objs.size)->IsPair g TO x y->S' g->U' g->IsPair g s.heap.objs.size x y->Off [z,TO,i,j] s.heap g->Q (some (.ref s.heap.objs.size)) {s with heap:=g})
  (stop:∀g,(r1=none\/r2=none)->Off [z,TO,i,j] s.heap g->Q none {s with heap:=g}):wpAny (model P w) A (pyNext (.ref z)) Q E s:=by
 have ty:s.TypeIs (.ref z) "zip":=⟨_,hz,rfl⟩
 refine wpAny_bind (wpAny_attempt (wpAny_callSpecial?_slot (name:=Str.ofString "__next__") ty F.slot_zip_next (wpAny_call_entry F.slot_zip_next ty F.entry_zip_next ?_ (F.args_zip_next_1 _))))
 refine qJw D1 D2 nd s1 s1' s2 s2' hz hTI hTO h1 h2 (fun x y g q1 q2 q3 q4 q5 q6 q7 q8=>wpAny_pure (item x y g q1 q2 q3 q4 q5 q6 q7 q8)) fun g e o en f he hc=> ?_
 exact wpAny_bind (wpAny_isInstance (T:="StopIteration") (b:=true) ⟨o,he,hc⟩ isSubtype_stop (wpAny_pure (stop g en f)))
def itOf (t:Addr):Obj:={cls:= .type "tuple_iterator",data:= .fields #[.ref t,.int 0 0]}
def jXh (xs:Array Value):Obj:={cls:= .type "tuple",data:= .seq xs}
noncomputable def zips (g:Heap) (t u:Addr):Heap:=
 let g2:=(g.push (itOf t)).push (itOf u)
 let g3:=g2.push (jXh #[.ref g.objs.size,.ref (g.push (itOf t)).objs.size])
 let g4:=g3.push (jXh #[.none,.none])
 g4.push {cls:= .type "zip",data:= .fields #[.none,.bool false,.bool false,.ref g2.objs.size,.ref g3.objs.size]}
theorem qUf (t u:Addr) (xs ys:Array Value):
  Meets (Builtin.«zip.__new__» ⟨[.type "zip",.ref t,.ref u],[]⟩) fun _ R s=>s.heap.IsTuple t xs/\s.heap.IsTuple u ys/\R (.ok (.ret (.ref (((((s.heap.push (itOf t)).push (itOf u)).push (jXh #[.ref s.heap.objs.size,.ref (s.heap.push (itOf t)).objs.size])).push (jXh #[.none,.none])).objs.size)))) {s with heap:=zips s.heap t u}:=by
 refine .of_wp fun P w A R s ⟨ht,hu,h⟩=> ?_
 obtain⟨g,a1,a2,a3,a4⟩:=s
 have sb:=sub_zip
 have m1:Heap.IsTuple (Shared.heap ⟨g,a1,a2,a3,a4⟩) t xs:=ht
 have m2:Heap.IsTuple (Shared.heap ⟨g.push {cls:= .type "tuple_iterator",data:= .fields #[.ref t,.int 0 0]},a1,a2,a3,a4⟩) u ys:=hu.push _
 wp_walk using wpAny_pyIter_tuple m1,wpAny_pyIter_tuple m2
 exact⟨_,rfl,h⟩
theorem qJv {P:Program} {w:World} {A:Around} {s:Shared} {t u:Addr} {xs ys:Array Value} {Q E:Value->Shared->Prop} (ht:s.heap.IsTuple t xs) (hu:s.heap.IsTuple u ys)
  (h:∀g n,n=s.heap.objs.size->IsZip g (n+4) (n+2) (n+3) .none->IsPair g (n+2) (.ref n) (.ref (n+1))->IsPair g (n+3) .none .none->OnTup n t 0 xs g->OnTup (n+1) u 0 ys g->
   (∀c o,s.heap.get? c=some o->g.get? c=some o)->Q (.ref (n+4)) {s with heap:=g}):wpAny (model P w) A (call (.type "zip") [.ref t,.ref u]) Q E s:=by
 refine callType_new F.called_zip (by decide) (F.typeCall_zip_2 _ _) (F.newCall_zip_2 _ _) (fun obj=>F.args_object_init_3 obj _ _) F.entry_zip_new (qUf t u xs ys) ⟨ht,hu,?_⟩
 have hn:∀(g:Heap) (o:Obj),(g.push o).objs.size=g.objs.size+1:=fun _ _=>Heap.size_push ..
 have up:∀ {g:Heap} {o q:Obj} {c:Addr},g.get? c=some q->(g.push o).get? c=some q:=fun e=>Heap.get?_push_of_some _ e
 have at':∀(g:Heap) (o:Obj),o.isFreed=false->(g.push o).get? g.objs.size=some o:=fun g o h=>Heap.get?_push_size _ h
 have kp:∀c o,s.heap.get? c=some o->(zips s.heap t u).get? c=some o:=fun c o e=>up (up (up (up (up e))))
 obtain⟨q,hq,hr⟩:=ht
 obtain⟨q',hq',hr'⟩:=hu
 have c0:(zips s.heap t u).get? s.heap.objs.size=some (itOf t):=up (up (up (up (at' _ _ rfl))))
 have c1:(zips s.heap t u).get? (s.heap.push (itOf t)).objs.size=some (itOf u):=up (up (up (at' _ _ rfl)))
 have c2:=up (g:=((s.heap.push (itOf t)).push (itOf u)).push (jXh #[.ref s.heap.objs.size,.ref (s.heap.push (itOf t)).objs.size])) (o:=jXh #[.none,.none]) (at' ((s.heap.push (itOf t)).push (itOf u)) (jXh #[.ref s.heap.objs.size,.ref (s.heap.push (itOf t)).objs.size]) rfl)
 have c2':(zips s.heap t u).get? ((s.heap.push (itOf t)).push (itOf u)).objs.size=some (jXh #[.ref s.heap.objs.size,.ref (s.heap.push (itOf t)).objs.size]):=up c2
 have c3:(zips s.heap t u).get? (((s.heap.push (itOf t)).push (itOf u)).push (jXh #[.ref s.heap.objs.size,.ref (s.heap.push (itOf t)).objs.size])).objs.size=some (jXh #[.none,.none]):=up (at' _ _ rfl)
 have c4:(zips s.heap t u).get? ((((s.heap.push (itOf t)).push (itOf u)).push (jXh #[.ref s.heap.objs.size,.ref (s.heap.push (itOf t)).objs.size])).push (jXh #[.none,.none])).objs.size=some {cls:= .type "zip",data:= .fields #[.none,.bool false,.bool false,.ref ((s.heap.push (itOf t)).push (itOf u)).objs.size,.ref (((s.heap.push (itOf t)).push (itOf u)).push (jXh #[.ref s.heap.objs.size,.ref (s.heap.push (itOf t)).objs.size])).objs.size]}:=at' _ _ rfl
 show _/\_
 simp only[hn] at c1 c2' c3 c4 ⊢
 exact⟨⟨_,c4,rfl⟩,h _ _ rfl c4 c2' c3 ⟨⟨_,c0,rfl,rfl⟩,q,kp _ _ hq,hr⟩ ⟨⟨_,c1,rfl,rfl⟩,q',kp _ _ hq',hr'⟩ kp⟩
noncomputable def Itz (K:PySem.W.Frag) (a1 a2:Addr):It:=
 ⟨fun i H=>∃xs ys x y,SqT K H a1 xs/\SqT K H a2 ys/\xs[i]? =some x/\ys[i]? =some y,
  fun i H v H'=>∃p x y,H p=none/\v= .ref p/\(∀xs,SqT K H a1 xs->xs[i]? =some x)/\(∀ys,SqT K H a2 ys->ys[i]? =some y)/\H'=upd H p (.tup [x,y]),
  fun i H=>∃xs ys,SqT K H a1 xs/\SqT K H a2 ys/\(xs.length<=i\/ys.length<=i)⟩
theorem qQx {z TI TO i1 i2 a1 a2:Addr} (D:ZipApart z TI TO i1 i2 a1 a2):ZipAt z TI TO i1 i2:=
 ⟨by simp[D.TIz.symm,D.TOz.symm,D.i1z.symm,D.i2z.symm,D.TITO,D.TIi1,D.TIi2,D.TOi1,D.TOi2,D.i12]⟩
theorem kJq {z TI TO i1 i2 a1 a2:Addr} {k:Nat} {xs:Array Value} (D:ZipApart z TI TO i1 i2 a1 a2):jZs [z,TO,i2] (OnTup i1 a1 k xs):=
 OnTup.still (by simp[D.i1z,D.TOi1.symm,D.i12]) (by simp[D.l1z,D.l1TO,D.l1i2])
theorem kJp {z TI TO i1 i2 a1 a2:Addr} {k:Nat} {xs:Array Value} (D:ZipApart z TI TO i1 i2 a1 a2):jZs [z,TO,i1] (OnTup i2 a2 k xs):=
 OnTup.still (by simp[D.i2z,D.TOi2.symm,D.i12.symm]) (by simp[D.l2z,D.l2TO,D.l2i1])
theorem qJ0 {P:Program} {w:World} {K:PySem.W.Frag} {elts:List Expr} {k:Nat} {pos:Pos} (z TI TO i1 i2 a1 a2:Addr) (D:ZipApart z TI TO i1 i2 a1 a2):
  Turn P w K (.Tuple elts k pos) (Itz K a1 a2) [z,TI,TO,i1,i2] z (fun i h=>IsZip h z TI TO .none/\IsPair h TI (.ref i1) (.ref i2)/\(∃a b,IsPair h TO a b)/\h.IsTupleIter i1 a1 i/\h.IsTupleIter i2 a2 i) where
 mem:=by simp
 obj:=fun i h ⟨hz,hTI,⟨a,b,hTO⟩,h1,h2⟩ c hc=>by
  simp only[List.mem_cons,List.not_mem_nil,or_false] at hc
  rcases hc with rfl | rfl | rfl | rfl | rfl
  ·exact⟨_,hz,fun v z=>nomatch (show Data.fields _=Data.cell v from z)⟩
  ·exact⟨_,hTI,fun v z=>nomatch (show Data.seq _ _=Data.cell v from z)⟩
  ·exact⟨_,hTO,fun v z=>nomatch (show Data.seq _ _=Data.cell v from z)⟩
  ·obtain⟨o,e,c,d⟩:=h1;exact⟨o,e,fun v z=>by rw[d] at z;cases z⟩
  ·obtain⟨o,e,c,d⟩:=h2;exact⟨o,e,fun v z=>by rw[d] at z;cases z⟩
 keep:=fun i h h' ⟨hz,hTI,⟨a,b,hTO⟩,h1,h2⟩ kp=>⟨kp z (by simp) _ hz,kp TI (by simp) _ hTI,⟨a,b,kp TO (by simp) _ hTO⟩,h1.at fun o q=>kp i1 (by simp) o q,h2.at fun o q=>kp i2 (by simp) o q⟩
 item:=by
  rintro X hP hw hK hc i pins s σ H E I hf ⟨hz,hTI,⟨a,b,hTO⟩,h1,h2⟩ hg
  subst hP hw hK
  obtain⟨xs,ys,x,y,hq1,hq2,hx,hy⟩:=hg
  obtain⟨its1,rv1,p1,hz1⟩:=I.tuple hq1
  obtain⟨its2,rv2,p2,hz2⟩:=I.tuple hq2
  obtain⟨u1,hu1,ru1⟩:=rv1.get hx
  obtain⟨u2,hu2,ru2⟩:=rv2.get hy
  refine kUq (r1:=its1.toArray[i]?) (r2:=its2.toArray[i]?) (jYb (I.ok.hd hc) D.l1i1) (jYb (I.ok.hd hc) D.l2i2) (qQx D) (kJq D) (kJq D) (kJp D) (kJp D) hz hTI hTO ⟨h1,p1⟩ ⟨h2,p2⟩ (fun x' y' g1 ex ey ho gTO g3 g4 hT hk=> ?_) (fun g en _=> ?_)
  rotate_left
  ·rcases en with e | e
   ·rw[show its1.toArray[i]? =some u1 by simpa using hu1] at e;cases e
   ·rw[show its2.toArray[i]? =some u2 by simpa using hu2] at e;cases e
  obtain rfl:u1=x':=by simpa[hu1] using ex
  obtain rfl:u2=y':=by simpa[hu2] using ey
  refine⟨_,rfl,wpAny_letOwnedTupleGo_zip ho fun g2 gz hs2=> ?_⟩
  have hzl:z<s.heap.objs.size:=Heap.lt_size hz
  have hp2:∀b o,b∉[z,TI,TO,i1,i2]->s.heap.get? b=some o->g2.get? b=some o:=fun b o hb q=>by
   simp only[List.mem_cons,List.not_mem_nil,or_false,not_or] at hb
   exact (hs2.2 b hb.1).trans (hk b (by simp only[List.mem_cons,List.not_mem_nil,or_false,not_or];exact⟨hb.1,hb.2.2.1,hb.2.2.2.1,hb.2.2.2.2⟩) o q)
  have hT2:g2.get? s.heap.objs.size=some {cls:= .type "tuple",data:= .seq #[u1,u2]}:=(hs2.2 _ (Nat.ne_of_gt hzl)).trans hT
  have I2:=kKl (t':=s.toks) (h':=g2) (p:=s.heap.objs.size) (vs:=[x,y]) (us:=[u1,u2]) I hp2 hf (Nat.le_refl _) ⟨_,hT2,rfl,_,rfl,rfl⟩ (.cons ru1 (.cons ru2 .nil)) (by show 2<=sizeLine;decide)
  refine⟨.ref s.heap.objs.size,_,I2,rfl,⟨_,x,y,I.hok.fresh (Nat.le_refl _),rfl,fun zs hz=>by rw[I.tuple_inj hz hq1];exact hx,fun zs hz=>by rw[I.tuple_inj hz hq2];exact hy,rfl⟩,
   ⟨gz,(hs2.2 _ D.TIz).trans (hk _ (by simp[D.TIz,D.TITO,D.TIi1,D.TIi2]) _ hTI),⟨_,_,(hs2.2 _ D.TOz).trans gTO⟩,g3.1.at fun o q=>(hs2.2 _ D.i1z).trans q,g4.1.at fun o q=>(hs2.2 _ D.i2z).trans q⟩,fun b hb=> ?_⟩
  have hbs:∃o,s.heap.get? b=some o:=by
   have hbq:=hb
   simp only[List.mem_cons,List.not_mem_nil,or_false] at hbq
   rcases hbq with rfl | rfl | rfl | rfl | rfl
   ·exact⟨_,hz⟩
   ·exact⟨_,hTI⟩
   ·exact⟨_,hTO⟩
   ·obtain⟨o,q,_⟩:=h1;exact⟨o,q⟩
   ·obtain⟨o,q,_⟩:=h2;exact⟨o,q⟩
  obtain⟨o,q⟩:=hbs
  rw[jJz (Nat.ne_of_lt (Heap.lt_size q))]
  exact (hf b hb).1
 done:=by
  rintro X hP hw hK hc i pins s σ H E I hf ⟨hz,hTI,⟨a,b,hTO⟩,h1,h2⟩ hg
  subst hP hw hK
  obtain⟨xs,ys,hq1,hq2,hx⟩:=hg
  obtain⟨its1,rv1,p1,hz1⟩:=I.tuple hq1
  obtain⟨its2,rv2,p2,hz2⟩:=I.tuple hq2
  have hl1:=rv1.length
  have hl2:=rv2.length
  refine kUq (r1:=its1.toArray[i]?) (r2:=its2.toArray[i]?) (jYb (I.ok.hd hc) D.l1i1) (jYb (I.ok.hd hc) D.l2i2) (qQx D) (kJq D) (kJq D) (kJp D) (kJp D) hz hTI hTO ⟨h1,p1⟩ ⟨h2,p2⟩ (fun x' y' g1 ex ey _ _ _ _ _ _=> ?_) (fun g1 _ hk=>⟨rfl,kXx (t':=s.toks) (fp:=[z,TI,TO,i1,i2]) I (fun b o hb q=> ?_) hf⟩)
  ·have q1:i<its1.length:=by simpa using (Array.getElem?_eq_some_iff.mp ex).1
   have q2:i<its2.length:=by simpa using (Array.getElem?_eq_some_iff.mp ey).1
   omega
  ·exact hk b (fun m=>hb (by simp only[List.mem_cons,List.not_mem_nil,or_false] at m ⊢; rcases m with h | h | h | h<;>simp[h])) o q
 self:=fun _ _ _ _ _ ⟨hz,_⟩ h=>wpAny_pyIter_zip hz h
theorem zapart {n a b:Nat} (ha:a<n) (hb:b<n):ZipApart (n+4) (n+2) (n+3) n (n+1) a b:=by
 constructor<;>(show @Ne Nat _ _;omega)
def zipT (xs ys:List T):List T:=(xs.zip ys).map fun p=>T.tup [p.1,p.2]
def iZip (ta:TA3):TI3:=fun τ G R=>ta τ G fun vs G1=>∃xs ys,vs=[.tup xs,.tup ys]/\R (zipT xs ys) (fun _=>True) G1
theorem i_zip {X:Cx} {elts:List Expr} {k:Nat} {tpos pos p:Pos} {a b:Expr} {ta:TA3} (hg:Gl X "zip") (hm:X.mg "zip"=none) (hv:bootBuiltins "zip"=some (.type "zip")) (ha:PA3 X [a,b] ta) (hs:starEach [a,b] X.env=[(false,eval a X.env),(false,eval b X.env)]:=by rfl) (hs2:starEach [b] X.env=[(false,eval b X.env)]:=by rfl):
  PI3 X (.Tuple elts k tpos) (.Call (.Name "zip" p) [a,b] [] pos) (iZip ta):=by
 intro pins s τ G H R I h
 obtain⟨σ0,I0,hs0,hg0⟩:=id I
 refine Call_ (jQ1 I0 hg hm hv (PyProof.Rows.callWith_type1 (thn (ha pos pins s τ G H _ I h) fun us s1 w_=>w_.el fun xs' G1 H1 e1 i_ r_ q1=>i_.el fun σ I1 hs1 hg1=>r_.el fun as ras rvs=> ?_) (by rw[hs,hs2]) (by rw[hs2];rfl)))
 obtain⟨xs,ys,e,q⟩:=q1
 subst e
 obtain⟨v,w,rfl,rv,rw'⟩:=kKo ras
 obtain⟨u,u',rfl,ru,ru'⟩:=rvs.two
 obtain⟨pa,vs,rfl,hq1,r1⟩:=(show ∃p vs,v= .ref p/\H1 p=some (.tup vs)/\Reps X.K H1 xs vs from rv)
 obtain⟨pb,ws,rfl,hq2,r2⟩:=(show ∃p vs,w= .ref p/\H1 p=some (.tup vs)/\Reps X.K H1 ys vs from rw')
 cases ru;cases ru'
 obtain⟨its1,rv1,p1,hz1⟩:=I1.tuple (.of hq1)
 obtain⟨its2,rv2,p2,hz2⟩:=I1.tuple (.of hq2)
 have hal:pa<s1.heap.objs.size:=by obtain⟨o,ho,_⟩:=p1;exact Heap.lt_size ho
 have hbl:pb<s1.heap.objs.size:=by obtain⟨o,ho,_⟩:=p2;exact Heap.lt_size ho
 refine qJv (show s1.heap.IsTuple pa its1.toArray from p1) (show s1.heap.IsTuple pb its2.toArray from p2) fun h1 n hn hz hTI hTO hi1 hi2 hk=> ?_
 subst hn
 have I2:Inv X pins σ H1 {s1 with heap:=h1}:=I1.kept (t':=s1.toks) hk
 refine wpAny_pyIter_zip hz ?_
 have fr:∀c∈[s1.heap.objs.size+4,s1.heap.objs.size+2,s1.heap.objs.size+3,s1.heap.objs.size,s1.heap.objs.size+1],FpOk X pins H1 c:=fun c hc=>by
  simp only[List.mem_cons,List.not_mem_nil,or_false] at hc
  have hle:s1.heap.objs.size<=c:=by omega
  exact I1.fpOk hle (I1.hok.fresh hle)
 have D:ZipApart (s1.heap.objs.size+4) (s1.heap.objs.size+2) (s1.heap.objs.size+3) s1.heap.objs.size (s1.heap.objs.size+1) pa pb:=zapart hal hbl
 refine⟨s1.heap.objs.size+4,_,_,_,zipT xs ys,fun _=>True,G1,H1,rfl,e1,⟨σ,I2,hs1,hg1⟩,qJ0 _ _ _ _ _ pa pb D,⟨hz,hTI,⟨_,_,hTO⟩,hi1.1,hi2.1⟩,fr,?_,q⟩
 intro i H2 G2 e2 g2 _
 obtain⟨pa',vs',ea,ha',ra'⟩:=(show ∃p vs,V.ref pa= .ref p/\H2 p=some (.tup vs)/\Reps X.K H2 xs vs from Rep.mono e2 _ rv)
 obtain⟨pb',ws',eb,hbq,rb'⟩:=(show ∃p vs,V.ref pb= .ref p/\H2 p=some (.tup vs)/\Reps X.K H2 ys vs from Rep.mono e2 _ rw')
 cases ea;cases eb
 have hl1:=ra'.length
 have hl2:=rb'.length
 have hzl:(zipT xs ys).length=min xs.length ys.length:=by simp[zipT]
 refine⟨fun hi=> ?_,fun hi=>⟨vs',ws',.of ha',.of hbq,by omega⟩,fun hi y H' ⟨pp,x1,x2,hn,ey,hy1,hy2,eH⟩=> ?_⟩
 ·exact⟨vs',ws',vs'[i]'(by omega),ws'[i]'(by omega),.of ha',.of hbq,List.getElem?_eq_getElem _,List.getElem?_eq_getElem _⟩
 ·subst ey;subst eH
  obtain⟨t1,ht1,rt1⟩:=ra'.get' (hy1 vs' (.of ha'))
  obtain⟨t2,ht2,rt2⟩:=rb'.get' (hy2 ws' (.of hbq))
  have hzi:(zipT xs ys)[i]? =some (.tup [t1,t2]):=by
   unfold zipT
   rw[List.getElem?_map,show (xs.zip ys)[i]? =some (t1,t2) from List.getElem?_zip_eq_some.mpr ⟨ht1,ht2⟩];rfl
  exact⟨.upd (.none hn),g2.tupNew hn,_,hzi,Rep.tupNew ⟨_,_,rfl,rt1,_,_,rfl,rt2,rfl⟩ hn⟩
noncomputable def Itv (K:PySem.W.Frag) (a:Addr) (n:Nat):It:=
 ⟨fun i H=>i<n/\∃xs x,SqL K H a xs/\xs.length=n/\xs[n-1-i]? =some x,fun i H x H'=>H'=H/\∀xs,SqL K H a xs->xs[n-1-i]? =some x,fun i _=>n<=i⟩
theorem qJ1 {P:Program} {w:World} {K:PySem.W.Frag} {tg:Expr} (a it:Addr) (n:Nat):Turn P w K tg (Itv K a n) [it] it (fun i h=>i<=n/\h.IsRevIter it a ((n:Int)-1-(i:Nat))) where
 mem:=List.mem_singleton_self _
 obj:=fun i h ⟨_,o,e,c,d⟩ b hb=>by
  obtain rfl:=List.mem_singleton.mp hb
  exact⟨o,e,fun v z=>by rw[d] at z;cases z⟩
 keep:=fun i h h' ⟨l,st⟩ k=>⟨l,st.at fun o e=>k it (List.mem_singleton_self _) o e⟩
 item:=by
  rintro X hP hw hK hc i pins s σ H E I hf ⟨hl,st⟩ ⟨hi,xs,x,hq,hn,hx⟩
  subst hP hw hK
  obtain⟨its,rv,p,hz⟩:=I.list hq
  obtain⟨u,hu,ru⟩:=rv.get hx
  obtain⟨f0,f1,_,f3,f4,f5⟩:=hf it (List.mem_singleton_self _)
  rw[show (n:Int)-1-(i:Nat)=((n-1-i:Nat):Int) by omega] at st
  refine wpAny_pyNext_rev_item st p.isList (x:=u) (by simpa using hu) fun h' st' sb=> ?_
  rw[show ((n-1-i:Nat):Int)-1=(n:Int)-1-((i+1:Nat):Int) by omega] at st'
  have I1:Inv X pins σ H {s with heap:=h'}:=I.turned (t':=s.toks) (fun b o hb e=>(sb.2 b hb).trans e) f0 f1 f3 f4 f5
  obtain⟨o,e,c,d⟩:=id st'
  exact⟨u,rfl,kZo (s:={s with heap:=h'}) e c d (by decide) ⟨x,H,I1,ru,⟨rfl,fun ys hy=>(I.list_inj hy hq).symm▸hx⟩,⟨hi,st'⟩,fun b hb=>(hf b hb).1⟩⟩
 done:=by
  rintro X hP hw hK hc i pins s σ H E I hf ⟨hl,st⟩ hg
  subst hP hw hK
  have hg':n<=i:=hg
  obtain⟨f0,f1,_,f3,f4,f5⟩:=hf it (List.mem_singleton_self _)
  rw[show (n:Int)-1-(i:Nat)= -1 by omega] at st
  exact wpAny_pyNext_rev_end (I.ok.hd hc) st fun h' eb=>⟨rfl,I.turned (t':=s.toks) (fun b o hb e=>eb b o hb e) f0 f1 f3 f4 f5⟩
 self:=fun _ _ _ _ _ ⟨_,st⟩ h=>wpAny_pyIter_revIter st h
def iRev (ta:TA3):TI3:=fun τ G R=>ta τ G fun vs G1=>∃x xs,vs=[x]/\jUw G1 x=some xs/\R xs.reverse (fun G'=>jUw G' x=some xs) G1
theorem kXh {X:Cx} {tg:Expr} {pos p:Pos} {a:Expr} {ta:TA3} (hg:Gl X "reversed") (hm:X.mg "reversed"=none) (hv:bootBuiltins "reversed"=some (.type "reversed")) (ha:PA3 X [a] ta) (hs:starEach [a] X.env=[(false,eval a X.env)]:=by rfl):
  PI3 X tg (.Call (.Name "reversed" p) [a] [] pos) (iRev ta):=by
 intro pins s τ G H R I h
 obtain⟨σ0,I0,_,_⟩:=id I
 refine Call_ (jQ1 I0 hg hm hv (PyProof.Rows.callWith_type1 (thn (ha pos pins s τ G H _ I h) fun us s1 w_=>w_.el fun xs' G1 H1 e1 i_ r_ q1=>i_.el fun σ I1 hs1 hg1=>r_.el fun as ras rvs=> ?_) hs rfl))
 obtain⟨x,xs,e,hx,q⟩:=q1
 subst e
 obtain⟨v,rfl,rv⟩:=jVh ras
 obtain⟨u,rfl,ru⟩:=rvs.one
 obtain⟨pa,vs,rfl,hq,r⟩:=jV7 hg1 rv hx
 cases ru
 obtain⟨its,rvv,pl,hz⟩:=I1.list hq
 have hlen:its.length=xs.length:=by have:=rvv.length;have:=r.length;omega
 refine call_reversed_list pl.isList ?_
 have st:(s1.heap.push (revObj pa (((its.toArray).size:Int)-1))).IsRevIter s1.heap.objs.size pa ((xs.length:Int)-1-((0:Nat):Int)):=⟨_,Heap.get?_push_size _ rfl,rfl,by
  show Data.fields #[.ref pa,rawInt (((its.toArray).size:Int)-1)]=_
  rw[show ((its.toArray).size:Int)-1=(xs.length:Int)-1-((0:Nat):Int) by simp[hlen]]⟩
 refine wpAny_pyIter_revIter st ?_
 have fr:∀b∈[s1.heap.objs.size],FpOk X pins H1 b:=fun b hb=>by
  obtain rfl:=List.mem_singleton.mp hb
  exact I1.fpOk (Nat.le_refl _) (I1.hok.fresh (Nat.le_refl _))
 refine⟨s1.heap.objs.size,[s1.heap.objs.size],_,_,xs.reverse,fun G'=>jUw G' x=some xs,G1,H1,rfl,e1,⟨σ,I1.kept (t':=s1.toks) fun b o e=>Heap.get?_push_of_some _ e,hs1,hg1⟩,qJ1 pa _ xs.length,⟨Nat.zero_le _,st⟩,fr,?_,q⟩
 intro i H2 G2 e2 g2 sty
 obtain⟨pb,ws,eb,h1,h2⟩:=jV7 g2 (Rep.mono e2 _ rv) sty
 cases eb
 have hl2:=h2.length
 rw[List.length_reverse]
 refine⟨fun hi=>⟨hi,ws,ws[xs.length-1-i]'(by omega),h1,by omega,List.getElem?_eq_getElem _⟩,fun hi=>hi,fun hi y H' ⟨eH,hy⟩=> ?_⟩
 subst eH
 obtain⟨t,ht,rt⟩:=h2.get' (hy ws h1)
 exact⟨.refl _,g2,t,by rw[List.getElem?_reverse hi];exact ht,rt⟩
end L3
namespace L3
open PySem
theorem atN {α:Type} {xs:List α} {n:Nat}:L2.atI xs (n:Int)=xs[n]? :=by
 unfold L2.atI L2.ixN
 by_cases h:n<xs.length
 ·simp[h]
 ·simp[h]
theorem at0 {α:Type} {x:α} {xs:List α}:L2.atI (x::xs) 0=some x:=(atN (n:=0)).trans rfl
theorem at1 {α:Type} {x y:α} {xs:List α}:L2.atI (x::y::xs) 1=some y:=(atN (n:=1)).trans rfl
theorem at2 {α:Type} {x y z:α} {xs:List α}:L2.atI (x::y::z::xs) 2=some z:=(atN (n:=2)).trans rfl
theorem atZ {α:Type} {xs:List α} {i:Int} (h:0<=i):L2.atI xs i=xs[i.toNat]? :=by
 obtain⟨n,rfl⟩:=Int.eq_ofNat_of_zero_le h
 simpa using atN
theorem qVi {n k:Nat} (h:k<n):L2.ixN n (k:Int)=some k:=by simp[L2.ixN,h]
theorem ix0 {n:Nat}:L2.ixN (n+1) 0=some 0:=qVi (k:=0) (by omega)
theorem ix1 {n:Nat}:L2.ixN (n+2) 1=some 1:=qVi (k:=1) (by omega)
theorem ix2 {n:Nat}:L2.ixN (n+3) 2=some 2:=qVi (k:=2) (by omega)
theorem ix30:L2.ixN 3 0=some 0:=ix0
theorem ix31:L2.ixN 3 1=some 1:=ix1
theorem ix32:L2.ixN 3 2=some 2:=ix2
theorem qQs {G:Gp} {i j:Int}:addR G (.int i) (.int j)=some (.val (.int (i+j))):=rfl
theorem qQr {G:Gp} {p q:Addr} {xs ys:List T} (h1:G p=some (.lst xs)) (h2:G q=some (.lst ys)) (hz:xs.length+ys.length<=sizeLine):addR G (.ref p) (.ref q)=some (.newL (xs++ys)):=by simp only[addR,h1,h2,hz,if_true]
theorem qKx {G:Gp} {i j:Int}:mulR G (.int i) (.int j)=some (.val (.int (i*j))):=rfl
theorem qKz {i j:Int}:mulC (.int i) (.int j)=L2.CMul i j:=rfl
theorem qKy {p:Addr} {j:Int}:mulC (.ref p) (.int j)=True:=rfl
theorem qVp {t:T} {G:Gp} {Q:VK3}:fin3 (.val t) G Q=Q t G:=rfl
theorem qVq {xs:List T} {G:Gp} {Q:VK3}:fin3 (.newL xs) G Q=∀p,G p=none->Q (.ref p) (gup G p (.lst xs)):=rfl
theorem qVd {G:Gp} {xs:List T} {i:Int}:ixR G (.tup xs) (.int i)=L2.atI xs i:=rfl
theorem qVe {G:Gp} {xs:List T} {i:Int}:ixR G (.scr xs) (.int i)=L2.atI xs i:=rfl
theorem jQk {G:Gp} {p:Addr} {xs:List T} {i:Int} (h:G p=some (.lst xs)):ixR G (.ref p) (.int i)=L2.atI xs i:=by simp only[ixR,seqT,h,asL]
theorem qJ6 {G:Gp} {xs:List T}:seqT G (.tup xs)=some xs:=rfl
theorem jJm {G:Gp} {p:Addr} {xs:List T} (h:G p=some (.lst xs)):seqT G (.ref p)=some xs:=by simp only[seqT,h,asL]
theorem setR_m {G:Gp} {p:Addr} {xs:List T} {k:Int} {v:T} (h:G p=some (.lst xs)):setR G (.ref p) (.int k) v=(L2.ixN xs.length k).map fun j=>gup G p (.lst (xs.set j v)):=by
 cases e:L2.ixN xs.length k with
 | none=>simp only[setR,h,e,Option.map_none]
 | some j=>simp only[setR,h,e,Option.map_some]
theorem qJ4 {G:Gp} {p:Addr} {xs:List T} {k:Int} {v:T}:setR (gup G p (.lst xs)) (.ref p) (.int k) v=(L2.ixN xs.length k).map fun j=>gup G p (.lst (xs.set j v)):=by
 rw[setR_m jJe];simp only[jXv]
theorem qVf {G:Gp} {p:Addr} {xs:List T} {i:Int}:ixR (gup G p (.lst xs)) (.ref p) (.int i)=L2.atI xs i:=jQk jJe
theorem qJ7 {G:Gp} {p:Addr} {xs:List T}:seqT (gup G p (.lst xs)) (.ref p)=some xs:=jJm jJe
noncomputable def ForAt (g:TG3) (tb:TS3) (D:Ends3) (τ:St3) (xs:List T) (stay:Gp->Prop) (G:Gp):Prop:=∃P:Nat->St3->Gp->Prop,P 0 τ G/\(∀i τ G,i<=xs.length->P i τ G->stay G)/\
 (∀i x τ G,xs[i]? =some x->P i τ G->g x τ G fun τ2 G2=>tb {D with nx:=P (i+1),ct:=P (i+1),bk:=D.nx} τ2 G2)/\∀ τ G,P xs.length τ G->D.nx τ G
theorem jK0 {wi:TI3} {g:TG3} {tb:TS3} {D:Ends3} {τ:St3} {G:Gp}:tFor wi g tb D τ G=wi τ G fun xs stay G1=>ForAt g tb D τ xs stay G1:=rfl
def kVy (mask:List Bool) (g:TG3) (tif:TT3) (te:TE3) (τ:St3) (xs:List T) (stay:Gp->Prop) (G:Gp) (Q:VK3):Prop:=kQs mask g tif te τ xs stay G Q
theorem qJ2 {mask:List Bool} {wi:TI3} {g:TG3} {tif:TT3} {te:TE3} {τ:St3} {G:Gp} {Q:VK3}:jQ3 mask wi g tif te τ G Q=wi τ G fun xs stay G1=>kVy mask g tif te τ xs stay G1 Q:=rfl
def Sub (G G':Gp):Prop:=∀c o,G c=some o->G' c=some o
theorem Sub.refl (G:Gp):Sub G G:=fun _ _ h=>h
theorem Sub.trans {G G1 G2:Gp} (h:Sub G G1) (h':Sub G1 G2):Sub G G2:=fun c o e=>h' c o (h c o e)
theorem Sub.new {p:Addr} {G:Gp} {o:GO} (hp:G p=none):Sub G (gup G p o):=fun c u e=>by rw[jJh];exact e;rintro rfl;rw[hp] at e;cases e
theorem Sub.over {p:Addr} {G G':Gp} {o:GO} (h:Sub G G') (hp:G p=none):Sub G (gup G' p o):=fun c u e=>by rw[jJh];exact h c u e;rintro rfl;rw[hp] at e;cases e
theorem Sub.none {G G':Gp} {p:Addr} (h:Sub G G') (hp:G' p=none):G p=none:=by
 cases e:G p with
 | none=>rfl
 | some o=>rw[h p o e] at hp;cases hp
theorem jQn {G:Gp} {a p:Addr} {o:GO} (h:gup G a o p=none):p≠a/\G p=none:=by
 by_cases e:p=a
 ·subst e;rw[jJe] at h;cases h
 ·rw[jJh e] at h;exact⟨e,h⟩
theorem jJd {G:Gp} {a p:Addr} {o:GO} (h:G a=some o) (hp:G p=none):a≠p:=by rintro rfl;rw[h] at hp;cases hp
theorem kJ4 {α β:Type} {enc:α->β} {es:List α} {i:Nat} {x:β} (h:(es.map enc)[i]? =some x):∃e,es[i]? =some e/\x=enc e:=by
 rw[List.getElem?_map] at h
 cases e1:es[i]? with
 | none=>rw[e1] at h;cases h
 | some e=>rw[e1] at h;exact⟨e,rfl,(Option.some.inj h).symm⟩
theorem kKc {α:Type} {mask:List Bool} {g:TG3} {tif:TT3} {te:TE3} {τ:St3} {es:List α} {enc:α->T} {stay:Gp->Prop} {G:Gp} {Q:VK3} (f:α->Option T) (hz:es.length<=sizeLine) (hst:∀G',Sub G G'->stay G')
  (h:∀(i:Nat) e,es[i]? =some e->∀G' (K:T->Gp->Prop) (K0:Gp->Prop),Sub G G'->(∀y G4,f e=some y->Sub G' G4->K y G4)->(f e=none->∀G4,Sub G' G4->K0 G4)->g (enc e) (msk mask τ) G' fun τ2 G2=>tif τ2 G2 fun b G3=>if b=true then te τ2 G3 K else K0 G3)
  (hq:∀D G',G D=none->G' D=some (.lst (es.filterMap f))->Sub G G'->Q (.ref D) G'):kVy mask g tif te τ (es.map enc) stay G Q:=by
 intro D hD
 refine⟨fun i acc G'=>acc=(es.take i).filterMap f/\G' D=some (.lst acc)/\Sub G G',⟨by simp,jJe,.new hD⟩,?_,?_,?_⟩
 ·rintro i acc G' hi ⟨ea,eg,hs⟩
  exact⟨hst G' hs,eg⟩
 ·rintro i x acc G' hx0 ⟨ea,eg,hs⟩
  obtain⟨e,hx,rfl⟩:=kJ4 hx0
  have hi:i<es.length:=(List.getElem?_eq_some_iff.mp hx).1
  have tk:es.take (i+1)=es.take i++[e]:=by rw[List.take_succ,hx];rfl
  have hlen:acc.length<sizeLine:=by
   have h1:acc.length<=(es.take i).length:=by rw[ea];exact List.length_filterMap_le _ _
   rw[List.length_take] at h1;omega
  refine h i e hx G' _ _ hs (fun y G4 hy h4=>⟨h4 D _ eg,hlen,?_,jJe,(hs.trans h4).over hD⟩) fun hn G4 h4=>⟨?_,h4 D _ eg,hs.trans h4⟩
  ·rw[tk,List.filterMap_append,<-ea];simp[hy]
  ·rw[tk,List.filterMap_append,<-ea];simp[hn]
 ·rintro acc G' ⟨ea,eg,hs⟩
  rw[List.length_map,List.take_length] at ea
  rw[ea] at eg
  exact hq D G' hD eg hs
theorem jUu {α:Type} {mask:List Bool} {g:TG3} {tif:TT3} {te:TE3} {τ:St3} {es:List α} {enc:α->T} {stay:Gp->Prop} {G:Gp} {Q:VK3} (f:α->T) (hz:es.length<=sizeLine) (hst:∀G',Sub G G'->stay G')
  (h:∀(i:Nat) e,es[i]? =some e->∀G' (K:T->Gp->Prop) (K0:Gp->Prop),Sub G G'->(∀G4,Sub G' G4->K (f e) G4)->g (enc e) (msk mask τ) G' fun τ2 G2=>tif τ2 G2 fun b G3=>if b=true then te τ2 G3 K else K0 G3)
  (hq:∀D G',G D=none->G' D=some (.lst (es.map f))->Sub G G'->Q (.ref D) G'):kVy mask g tif te τ (es.map enc) stay G Q:=by
 refine kKc (fun e=>some (f e)) hz hst (fun i e he G' K K0 hs hk _=>h i e he G' K K0 hs fun G4 h4=>hk _ G4 rfl h4) fun D G' hD h1 h2=>hq D G' hD ?_ h2
 rw[h1];congr 2;induction es with
 | nil=>rfl
 | cons a as ih=>simp
theorem jKp {G:Gp} {p:Addr} {xs:List T} (h:G p=some (.lst xs)):tyT G "list" (.ref p)=True:=by simp[tyT,h]
theorem qUi {G:Gp} {p:Addr} {xs:List T}:tyT (gup G p (.lst xs)) "list" (.ref p)=True:=jKp jJe
theorem kXl {α:Type} {mask:List Bool} {g:TG3} {tif:TT3} {te:TE3} {τ:St3} {es:List α} {enc:α->T} {stay:Gp->Prop} {G:Gp} {Q:VK3} (f:α->List T) (hz:es.length<=sizeLine) (hst:∀G',Sub G G'->stay G')
  (h:∀(i:Nat) e,es[i]? =some e->∀G' (K:T->Gp->Prop) (K0:Gp->Prop),Sub G G'->(∀p G4,G' p=none->G4 p=some (.lst (f e))->Sub G' G4->K (.ref p) G4)->g (enc e) (msk mask τ) G' fun τ2 G2=>tif τ2 G2 fun b G3=>if b=true then te τ2 G3 K else K0 G3)
  (hq:∀D rs G',G D=none->G' D=some (.lst (rs.map T.ref))->Sub G G'->rs.length=es.length->(D::rs).Nodup->(∀(i:Nat) (r:Addr) (e:α),rs[i]? =some r->es[i]? =some e->G r=none/\G' r=some (.lst (f e)))->Q (.ref D) G'):kVy mask g tif te τ (es.map enc) stay G Q:=by
 intro D hD
 refine⟨fun i acc G'=>∃rs:List Addr,acc=rs.map T.ref/\rs.length=i/\G' D=some (.lst acc)/\Sub G G'/\(D::rs).Nodup/\(∀(i:Nat) (r:Addr) (e:α),rs[i]? =some r->es[i]? =some e->G r=none/\G' r=some (.lst (f e))),⟨[],rfl,rfl,jJe,.new hD,by simp,by simp⟩,?_,?_,?_⟩
 ·rintro i acc G' hi ⟨rs,ea,hl,eg,hs,hn,hr⟩
  exact⟨hst G' hs,eg⟩
 ·rintro i x acc G' hx0 ⟨rs,ea,hl,eg,hs,hn,hr⟩
  obtain⟨e,hx,rfl⟩:=kJ4 hx0
  have hi:i<es.length:=(List.getElem?_eq_some_iff.mp hx).1
  have hlen:acc.length<sizeLine:=by rw[ea,List.length_map];omega
  refine h i e hx G' _ _ hs fun p G4 hp h4 s4=>⟨s4 D _ eg,hlen,rs++[p],by simp[ea],by simp[hl],jJe,(hs.trans s4).over hD,?_,?_⟩
  ·have hDp:D≠p:=jJd eg hp
   have hpr:p∉rs:=by
    intro hm
    obtain⟨j,hj⟩:∃j:Nat,_:=List.getElem?_of_mem hm
    have hjl:j<rs.length:=(List.getElem?_eq_some_iff.mp hj).1
    have:=(hr j p es[j] hj (List.getElem?_eq_getElem (by omega))).2
    rw[hp] at this;cases this
   rw[List.nodup_cons] at hn
   simp only[List.nodup_cons,List.mem_append,List.mem_singleton,not_or,List.nodup_append,List.not_mem_nil,not_false_eq_true,List.nodup_nil,and_true]
   exact⟨⟨hn.1,hDp⟩,hn.2,trivial,fun a ha b hb=>by subst hb;rintro rfl;exact hpr ha⟩
  ·intro j r e' hj he'
   have hjl:j<rs.length+1:=by have:=(List.getElem?_eq_some_iff.mp hj).1;simpa using this
   by_cases hjr:j<rs.length
   ·rw[List.getElem?_append_left hjr] at hj
    obtain⟨q1,q2⟩:=hr j r e' hj he'
    have:r≠D:=by rintro rfl;exact (List.nodup_cons.mp hn).1 (List.mem_of_getElem? hj)
    exact⟨q1,by rw[jJh this];exact s4 _ _ q2⟩
   ·have hj2:j=rs.length:=by omega
    subst hj2
    rw[List.getElem?_append_right (Nat.le_refl _)] at hj
    simp at hj
    subst hj
    rw[hl,hx] at he';cases he'
    exact⟨hs.none hp,by rw[jJh (jJd eg hp).symm];exact h4⟩
 ·rintro acc G' ⟨rs,ea,hl,eg,hs,hn,hr⟩
  rw[ea] at eg
  exact hq D rs G' hD eg hs (by simpa using hl) hn hr
end L3
namespace L3
open PySem PySem.Spec PyProof.Rows L2
section
variable {X:Cx}
def rAddE:R3:=fun x y G Q=>∃ys,x= .tup []/\y= .tup ys/\Q (.tup ys) G
theorem o_addE:Op3 X (binaryOp .Add) rAddE:=by
 rintro pins s τ G H x y v u Q ⟨σ,I,hs,hg⟩ ⟨a,ra,rv⟩ ⟨b,rb,ru⟩ ⟨ys,ex,ey,q⟩
 subst ex;subst ey
 obtain⟨pa,vs,rfl,h1,r1⟩:=(show ∃p vs,a= .ref p/\H p=some (.tup vs)/\Reps X.K H [] vs from ra)
 obtain⟨pb,ws,rfl,h2,r2⟩:=(show ∃p vs,b= .ref p/\H p=some (.tup vs)/\Reps X.K H ys vs from rb)
 cases rv;cases ru
 obtain⟨its,q1,p1,_⟩:=I.tuple (.of h1)
 obtain⟨its2,q2,p2,_⟩:=I.tuple (.of h2)
 have e0:its.toArray.isEmpty=true:=by
  have e1:=r1.length
  have e2:=q1.length
  have:its=[]:=List.eq_nil_of_length_eq_zero (by simp at e1;omega)
  rw[this];rfl
 obtain⟨⟨cls,dd,data,sl⟩,ho,hc,n,hd⟩:=id p1
 obtain⟨⟨cls2,dd2,data2,sl2⟩,ho2,hc2,n2,hd2⟩:=id p2
 simp only at hc hd hc2 hd2
 subst hc hd hc2 hd2
 exact concat_meets ⟨_,ho,rfl⟩ ⟨_,ho2,rfl⟩ noFill_tuple_add seq_tuple_add PySem.F.slot_tuple_add PySem.F.entry_tuple_add (PySem.F.args_tuple_add_2 _ _) (tuple_addW0 pa pb its.toArray its2.toArray n n2 dd dd2 sl sl2 e0)
  ⟨ho,ho2,.tup ys,G,H,.refl H,⟨σ,I,hs,hg⟩,⟨.ref pb,⟨pb,ws,rfl,h2,r2⟩,rfl⟩,q⟩
def kV7:R3:=fun x y G Q=>jKw x y G Q\/rAddE x y G Q
theorem qQ4:Op3 X (binaryOp .Add) kV7:=o_addF.or o_addE
end
section
variable {X:Cx}
end
section
variable {X:Cx}
end
end L3
namespace L3
open PySem PySem.Spec PyProof.Rows L2 MeetsSeq
section
variable {X:Cx}
end
end L3
namespace L3
open PySem PySem.Spec PyProof.Rows L2
section
variable {X:Cx}
end
section
variable {X:Cx}
end
section
variable {P:Program} {w:World} {A:Around} {E:Value->Shared->Prop} {s:Shared} {d:Addr}
end
section
variable {X:Cx}
end
section
variable {X:Cx}
def kYq:List T->Gp->VK3->Prop:=fun xs G Q=>∃i j,xs=[.int i,.int j]/\Q (.int (if j<i then j else i)) G
theorem qUe (hc:X.calm=true):Call3 X (.builtin "min") kYq:=
 Call3.of (qJg hc) fun H G xs as Q hg ra ⟨i,j,e,q⟩=>by
  subst e
  obtain⟨v,w,rfl,rv,rw'⟩:=kKo ra
  cases (show v= .int i from rv);cases (show w= .int j from rw')
  exact⟨i,j,rfl,.int _,G,.refl H,hg,rfl,q⟩
theorem jUd:∀ {is:List Int} {us:List Value},Vals (is.map V.int) us->∃ps:List (Int×Tok),us=ps.map (fun p=> .int p.1 p.2)/\ps.map (·.1)=is
 | [],_,.nil=>⟨[],rfl,rfl⟩
 | i::is,_,.cons ⟨t,e⟩ r=>by
  obtain⟨ps,e1,e2⟩:=jUd r
  subst e1;subst e2;subst e
  exact⟨(i,t)::ps,rfl,rfl⟩
end
section
variable {X:Cx}
end
section
variable {X:Cx}
end
section
variable {X:Cx} {pos:Pos}
end
theorem szle {n:Nat} (h:Nat.ble n 16777216=true):n<=sizeLine:=by rw[PySem.sizeLine_eq];exact Nat.le_of_ble_eq_true h
end L3
namespace L3
theorem xe1 {A0:Type} {σ:Type} {f:A0->σ} {p:A0->Prop} {τ:σ} {C:σ->Prop} (h:∃a0,τ=f a0/\p a0) (k:∀a0,p a0->C (f a0)):C τ:=by
 obtain⟨a0,e,h⟩:=h;rw[e];exact k _ h
theorem xe2 {A0 A1:Type} {σ:Type} {f:A0->A1->σ} {p:A0->A1->Prop} {τ:σ} {C:σ->Prop} (h:∃a0 a1,τ=f a0 a1/\p a0 a1) (k:∀a0 a1,p a0 a1->C (f a0 a1)):C τ:=by
 obtain⟨a0,a1,e,h⟩:=h;rw[e];exact k _ _ h
theorem xe3 {A0 A1 A2:Type} {σ:Type} {f:A0->A1->A2->σ} {p:A0->A1->A2->Prop} {τ:σ} {C:σ->Prop} (h:∃a0 a1 a2,τ=f a0 a1 a2/\p a0 a1 a2) (k:∀a0 a1 a2,p a0 a1 a2->C (f a0 a1 a2)):C τ:=by
 obtain⟨a0,a1,a2,e,h⟩:=h;rw[e];exact k _ _ _ h
theorem xe4 {A0 A1 A2 A3:Type} {σ:Type} {f:A0->A1->A2->A3->σ} {p:A0->A1->A2->A3->Prop} {τ:σ} {C:σ->Prop} (h:∃a0 a1 a2 a3,τ=f a0 a1 a2 a3/\p a0 a1 a2 a3) (k:∀a0 a1 a2 a3,p a0 a1 a2 a3->C (f a0 a1 a2 a3)):C τ:=by
 obtain⟨a0,a1,a2,a3,e,h⟩:=h;rw[e];exact k _ _ _ _ h
theorem xe5 {A0 A1 A2 A3 A4:Type} {σ:Type} {f:A0->A1->A2->A3->A4->σ} {p:A0->A1->A2->A3->A4->Prop} {τ:σ} {C:σ->Prop} (h:∃a0 a1 a2 a3 a4,τ=f a0 a1 a2 a3 a4/\p a0 a1 a2 a3 a4) (k:∀a0 a1 a2 a3 a4,p a0 a1 a2 a3 a4->C (f a0 a1 a2 a3 a4)):C τ:=by
 obtain⟨a0,a1,a2,a3,a4,e,h⟩:=h;rw[e];exact k _ _ _ _ _ h
theorem xe6 {A0 A1 A2 A3 A4 A5:Type} {σ:Type} {f:A0->A1->A2->A3->A4->A5->σ} {p:A0->A1->A2->A3->A4->A5->Prop} {τ:σ} {C:σ->Prop} (h:∃a0 a1 a2 a3 a4 a5,τ=f a0 a1 a2 a3 a4 a5/\p a0 a1 a2 a3 a4 a5) (k:∀a0 a1 a2 a3 a4 a5,p a0 a1 a2 a3 a4 a5->C (f a0 a1 a2 a3 a4 a5)):C τ:=by
 obtain⟨a0,a1,a2,a3,a4,a5,e,h⟩:=h;rw[e];exact k _ _ _ _ _ _ h
theorem xe7 {A0 A1 A2 A3 A4 A5 A6:Type} {σ:Type} {f:A0->A1->A2->A3->A4->A5->A6->σ} {p:A0->A1->A2->A3->A4->A5->A6->Prop} {τ:σ} {C:σ->Prop} (h:∃a0 a1 a2 a3 a4 a5 a6,τ=f a0 a1 a2 a3 a4 a5 a6/\p a0 a1 a2 a3 a4 a5 a6) (k:∀a0 a1 a2 a3 a4 a5 a6,p a0 a1 a2 a3 a4 a5 a6->C (f a0 a1 a2 a3 a4 a5 a6)):C τ:=by
 obtain⟨a0,a1,a2,a3,a4,a5,a6,e,h⟩:=h;rw[e];exact k _ _ _ _ _ _ _ h
theorem xe8 {A0 A1 A2 A3 A4 A5 A6 A7:Type} {σ:Type} {f:A0->A1->A2->A3->A4->A5->A6->A7->σ} {p:A0->A1->A2->A3->A4->A5->A6->A7->Prop} {τ:σ} {C:σ->Prop} (h:∃a0 a1 a2 a3 a4 a5 a6 a7,τ=f a0 a1 a2 a3 a4 a5 a6 a7/\p a0 a1 a2 a3 a4 a5 a6 a7) (k:∀a0 a1 a2 a3 a4 a5 a6 a7,p a0 a1 a2 a3 a4 a5 a6 a7->C (f a0 a1 a2 a3 a4 a5 a6 a7)):C τ:=by
 obtain⟨a0,a1,a2,a3,a4,a5,a6,a7,e,h⟩:=h;rw[e];exact k _ _ _ _ _ _ _ _ h
theorem xe10 {A0 A1 A2 A3 A4 A5 A6 A7 A8 A9:Type} {σ:Type} {f:A0->A1->A2->A3->A4->A5->A6->A7->A8->A9->σ} {p:A0->A1->A2->A3->A4->A5->A6->A7->A8->A9->Prop} {τ:σ} {C:σ->Prop} (h:∃a0 a1 a2 a3 a4 a5 a6 a7 a8 a9,τ=f a0 a1 a2 a3 a4 a5 a6 a7 a8 a9/\p a0 a1 a2 a3 a4 a5 a6 a7 a8 a9) (k:∀a0 a1 a2 a3 a4 a5 a6 a7 a8 a9,p a0 a1 a2 a3 a4 a5 a6 a7 a8 a9->C (f a0 a1 a2 a3 a4 a5 a6 a7 a8 a9)):C τ:=by
 obtain⟨a0,a1,a2,a3,a4,a5,a6,a7,a8,a9,e,h⟩:=h;rw[e];exact k _ _ _ _ _ _ _ _ _ _ h
theorem ae2 {a0 a1 C:Prop} (h:a0/\a1) (k:a0->a1->C):C:=k h.1 h.2
theorem ae3 {a0 a1 a2 C:Prop} (h:a0/\a1/\a2) (k:a0->a1->a2->C):C:=k h.1 h.2.1 h.2.2
theorem ae4 {a0 a1 a2 a3 C:Prop} (h:a0/\a1/\a2/\a3) (k:a0->a1->a2->a3->C):C:=k h.1 h.2.1 h.2.2.1 h.2.2.2
theorem ae5 {a0 a1 a2 a3 a4 C:Prop} (h:a0/\a1/\a2/\a3/\a4) (k:a0->a1->a2->a3->a4->C):C:=k h.1 h.2.1 h.2.2.1 h.2.2.2.1 h.2.2.2.2
theorem ae6 {a0 a1 a2 a3 a4 a5 C:Prop} (h:a0/\a1/\a2/\a3/\a4/\a5) (k:a0->a1->a2->a3->a4->a5->C):C:=k h.1 h.2.1 h.2.2.1 h.2.2.2.1 h.2.2.2.2.1 h.2.2.2.2.2
theorem ae7 {a0 a1 a2 a3 a4 a5 a6 C:Prop} (h:a0/\a1/\a2/\a3/\a4/\a5/\a6) (k:a0->a1->a2->a3->a4->a5->a6->C):C:=k h.1 h.2.1 h.2.2.1 h.2.2.2.1 h.2.2.2.2.1 h.2.2.2.2.2.1 h.2.2.2.2.2.2
theorem ae8 {a0 a1 a2 a3 a4 a5 a6 a7 C:Prop} (h:a0/\a1/\a2/\a3/\a4/\a5/\a6/\a7) (k:a0->a1->a2->a3->a4->a5->a6->a7->C):C:=k h.1 h.2.1 h.2.2.1 h.2.2.2.1 h.2.2.2.2.1 h.2.2.2.2.2.1 h.2.2.2.2.2.2.1 h.2.2.2.2.2.2.2
theorem ae9 {a0 a1 a2 a3 a4 a5 a6 a7 a8 C:Prop} (h:a0/\a1/\a2/\a3/\a4/\a5/\a6/\a7/\a8) (k:a0->a1->a2->a3->a4->a5->a6->a7->a8->C):C:=k h.1 h.2.1 h.2.2.1 h.2.2.2.1 h.2.2.2.2.1 h.2.2.2.2.2.1 h.2.2.2.2.2.2.1 h.2.2.2.2.2.2.2.1 h.2.2.2.2.2.2.2.2
theorem ae11 {a0 a1 a2 a3 a4 a5 a6 a7 a8 a9 a10 C:Prop} (h:a0/\a1/\a2/\a3/\a4/\a5/\a6/\a7/\a8/\a9/\a10) (k:a0->a1->a2->a3->a4->a5->a6->a7->a8->a9->a10->C):C:=k h.1 h.2.1 h.2.2.1 h.2.2.2.1 h.2.2.2.2.1 h.2.2.2.2.2.1 h.2.2.2.2.2.2.1 h.2.2.2.2.2.2.2.1 h.2.2.2.2.2.2.2.2.1 h.2.2.2.2.2.2.2.2.2.1 h.2.2.2.2.2.2.2.2.2.2
theorem ae13 {a0 a1 a2 a3 a4 a5 a6 a7 a8 a9 a10 a11 a12 C:Prop} (h:a0/\a1/\a2/\a3/\a4/\a5/\a6/\a7/\a8/\a9/\a10/\a11/\a12) (k:a0->a1->a2->a3->a4->a5->a6->a7->a8->a9->a10->a11->a12->C):C:=k h.1 h.2.1 h.2.2.1 h.2.2.2.1 h.2.2.2.2.1 h.2.2.2.2.2.1 h.2.2.2.2.2.2.1 h.2.2.2.2.2.2.2.1 h.2.2.2.2.2.2.2.2.1 h.2.2.2.2.2.2.2.2.2.1 h.2.2.2.2.2.2.2.2.2.2.1 h.2.2.2.2.2.2.2.2.2.2.2.1 h.2.2.2.2.2.2.2.2.2.2.2.2
end L3
namespace L3
open PySem PySem.Spec PyProof.Rows L2
section
variable {X:Cx}
end
section
variable {X:Cx}
def jYu:TS3:=fun _ _ _=>False
theorem kQw {e c:Option Expr} {pos:Pos}:PS3 X (.Raise e c pos) jYu:=fun _ _ _ _ _ _ _ h=>h.elim
end
section
variable {X:Cx}
end
section
variable {X:Cx}
end
section
variable {P:Program} {w:World} {A:Around} {E:Value->Shared->Prop} {s:Shared} {d it:Addr} {o:Obj} {es:Array DictEntry} {ep i:Nat}
end
section
variable {X:Cx}
end
section
variable {X:Cx}
def kKy (b:Int):List Int->Int
 | []=>b
 | x::xs=>kKy (if x>b then x else b) xs
theorem kXa (xs:List Int):∀(b y:Int),kKy b (xs++[y])=if y>kKy b xs then y else kKy b xs:=by
 induction xs with
 | nil=>intro b y;rfl
 | cons x xs ih=>intro b y;exact ih _ y
theorem kQi (f:Nat->Int):∀k,f (argBest (fun i j=>decide (f i>f j)) k)=kKy (f 0) ((List.range k).map fun i=>f (i+1)):=by
 intro k
 induction k with
 | zero=>rfl
 | succ k ih=>
  rw[List.range_succ,List.map_append,List.map_singleton,kXa,<-ih]
  simp only[argBest,decide_eq_true_eq]
  by_cases h:f (k+1)>f (argBest (fun i j=>decide (f i>f j)) k)
  ·rw[if_pos h,if_pos h]
  ·rw[if_neg h,if_neg h]
theorem qJh (hc:X.calm=true):kQo X (.builtin "max") (fun xs H Q=>∃p i is,xs=[.ref p]/\SqL X.K H p ((i::is).map V.int)/\Q (.int (kKy i is)) H):=by
 intro pins s σ H xs us Q I r h
 obtain⟨p,i,is,rfl,hx,q⟩:=h
 obtain⟨u,rfl,ru⟩:=kVz r
 cases ru
 obtain⟨its,r',pl,hz⟩:=I.list hx
 obtain⟨ps,e1,e2⟩:=jUd r'
 subst e1
 have hne:0<ps.toArray.size:=by
  have:=congrArg List.length e2
  simp at this ⊢; omega
 have eI:(ps.map (fun p=>Value.int p.1 p.2)).toArray=intItems ps.toArray:=by simp[intItems]
 refine max_intList (xs:=ps.toArray) (I.ok.hd hc) (eI▸pl.isList) hne fun v h' tk hv k=> ?_
 obtain⟨t,rfl⟩:=(intItems_at hv)
 have hl:ps.toArray.size-1=is.length:=by
  have:=congrArg List.length e2
  simp at this ⊢; omega
 have hn:∀j,numAt ps.toArray j=((i::is)[j]?).getD 0:=fun j=>by rw[<-e2];simp[numAt]
 refine⟨.int (kKy i is),H,I.kept k,?_,q⟩
 refine⟨t,?_⟩
 rw[kQi (numAt ps.toArray),hl]
 have a0:numAt ps.toArray 0=i:=by rw[hn];rfl
 have a1:((List.range is.length).map fun j=>numAt ps.toArray (j+1))=is:=by
  apply List.ext_getElem? ; intro j
  rw[List.getElem?_map]
  by_cases hj:j<is.length
  ·rw[List.getElem?_range hj,Option.map_some,hn,List.getElem?_cons_succ,List.getElem?_eq_getElem hj];rfl
  ·rw[List.getElem?_eq_none (by simpa using hj),List.getElem?_eq_none (by simpa using hj)];rfl
 rw[a0,a1]
def qUt:List T->Gp->VK3->Prop:=fun xs G Q=>∃p i is,xs=[.ref p]/\G p=some (.lst ((i::is).map T.int))/\Q (.int (kKy i is)) G
theorem c_maxL (hc:X.calm=true):Call3 X (.builtin "max") qUt:=
 Call3.of (qJh hc) fun H G xs as Q hg ra ⟨p,i,is,e,hG,q⟩=>by
  subst e
  obtain⟨v,rfl,rv⟩:=jVh ra
  cases (show v= .ref p from rv)
  obtain⟨vs,h1,h2⟩:=hg.lst hG
  have e:=jK3 h2
  subst e
  exact⟨p,i,is,rfl,.of h1,.int _,G,.refl H,hg,rfl,q⟩
end
def CN (K:PySem.W.Frag) (cn:Str) (C:Addr):Prop:=PySem.W.nsIn K mainGlobals cn=some (some (.ref C))
theorem CN.one {K:PySem.W.Frag} {cn:Str} {C D:Addr} (h:CN K cn C) (h':CN K cn D):C=D:=by
 unfold CN at h h';rw[h] at h';cases h';rfl
structure ObF (K:PySem.W.Frag) (cn f:Str):Prop where
 ex:∃C,CN K cn C/\Cls K C/\NoAttr K C f
def jUv (f:Str) (t:T):List (Str×T)->List (Str×T)
 | []=>[(f,t)]
 | (g,x)::r=>if g=f then (g,t)::r else (g,x)::jUv f t r
def fldT (f:Str):List (Str×T)->Option T
 | []=>none
 | (g,x)::r=>if g=f then some x else fldT f r
theorem kQ5 {K:PySem.W.Frag} {H:Hp} {fs:List (Str×T)} {ws:List (Str×V)} (h:PKV K H fs ws) (f:Str):
  (fldT f fs=none->ws.lookup f=none)/\∀t,fldT f fs=some t->∃v,ws.lookup f=some v/\Rep K H t v:=by
 unfold PKV at h
 induction h with
 | nil=>exact⟨fun _=>rfl,fun t e=>by cases e⟩
 | @cons a b l m r _ ih=>
  obtain⟨g,x⟩:=a;obtain⟨g',v⟩:=b;obtain⟨e,rv⟩:=r;cases e
  by_cases q:g=f
  ·subst q
   refine⟨fun e=> ?_,fun t e=> ?_⟩
   ·simp[fldT] at e
   ·simp only[fldT,if_true] at e;cases e;exact⟨v,by simp[List.lookup],rv⟩
  ·have e2:List.lookup f ((g,v)::m)=List.lookup f m:=by
    have:(f == g)=false:=by simp;exact fun z=>q z.symm
    simp only[List.lookup,this]
   rw[e2];simp only[fldT,q,if_false];exact ih
theorem qUw {K:PySem.W.Frag} {H:Hp} {fs:List (Str×T)} {ws:List (Str×V)} (h:PKV K H fs ws) (f:Str) {t:T} {v:V} (r:Rep K H t v):PKV K H (jUv f t fs) (putF f v ws):=by
 unfold PKV at h ⊢
 induction h with
 | nil=>exact .cons ⟨rfl,r⟩ .nil
 | @cons a b l m r0 ht ih=>
  obtain⟨g,x⟩:=a;obtain⟨g',u⟩:=b;obtain⟨e,rv⟩:=r0;cases e
  by_cases q:g=f
  ·simp only[jUv,putF,q,if_true];exact .cons ⟨rfl,r⟩ ht
  ·simp only[jUv,putF,q,if_false];exact .cons ⟨rfl,rv⟩ ih
def fldR (cn f:Str) (G:Gp):T->Option T
 | .ref a=>match G a with
  | some (.ins c fs)=>if c=cn then fldT f fs else none
  | _=>none
 | _=>none
noncomputable def jYy (cn f:Str) (G:Gp) (x y:T):Option Gp:=match x with
 | .ref a=>match G a with
  | some (.ins c fs)=>if c=cn/\fs.length<1000 then some (gup G a (.ins c (jUv f y fs))) else none
  | _=>none
 | _=>none
def obR (cn m:Str) (G:Gp):T->Bool
 | .ref a=>match G a with
  | some (.ins c fs)=>decide (c=cn)&&(fldT m fs).isNone
  | _=>false
 | _=>false
theorem kXk {cn f:Str} {G:Gp} {x t:T} (h:fldR cn f G x=some t):∃a fs,x= .ref a/\G a=some (.ins cn fs)/\fldT f fs=some t:=by
 unfold fldR at h
 split at h
 ·rename_i a
  split at h
  ·rename_i c fs hG
   split at h
   ·rename_i e;subst e;exact⟨a,fs,rfl,hG,h⟩
   ·cases h
  ·cases h
 ·cases h
theorem kQu {cn f:Str} {G G':Gp} {x t:T} (h:jYy cn f G x t=some G'):∃a fs,x= .ref a/\G a=some (.ins cn fs)/\fs.length<1000/\G'=gup G a (.ins cn (jUv f t fs)):=by
 unfold jYy at h
 split at h
 ·rename_i a
  split at h
  ·rename_i c fs hG
   split at h
   ·rename_i e;obtain⟨e,l⟩:=e;subst e;cases h;exact⟨a,fs,rfl,hG,l,rfl⟩
   ·cases h
  ·cases h
 ·cases h
theorem kKx {cn m:Str} {G:Gp} {x:T} (h:obR cn m G x=true):∃a fs,x= .ref a/\G a=some (.ins cn fs)/\fldT m fs=none:=by
 unfold obR at h
 split at h
 ·rename_i a
  split at h
  ·rename_i c fs hG
   rw[Bool.and_eq_true,decide_eq_true_iff] at h
   obtain⟨e,l⟩:=h;subst e;exact⟨a,fs,rfl,hG,by simpa using l⟩
  ·cases h
 ·cases h
def tFld (cn f:Str) (ta:TE3):TE3:=fun τ G Q=>ta τ G fun x G1=>∃t,fldR cn f G1 x=some t/\Q t G1
def jVg (cn f:Str) (ta tv:TE3):TS3:=fun D τ G=>tv τ G fun y G1=>ta τ G1 fun x G2=>∃G3,jYy cn f G2 x y=some G3/\D.nx τ G3
def jJ0 (cn m:Str) (sp:Sp3) (ta:TE3) (t:TA3):TE3:=fun τ G Q=>ta τ G fun x G1=>obR cn m G1 x=true/\t τ G1 fun xs G2=>sp (x::xs) G2 Q
def kQr (cn:Str) (sp:Sp3) (t:TA3):TE3:=fun τ G Q=>t τ G fun xs G1=>∀x,G1 x=none->sp (.ref x::xs) (gup G1 x (.ins cn [])) fun v G2=>v= .non/\Q (.ref x) G2
section
variable {X:Cx} {cn f m:Str} {pos pos' apos p:Pos} {e o value:Expr} {es:List Expr} {ta tv:TE3} {t:TA3} {k:Nat} {ps:List Str} {sp:Sp3}
theorem jQu (c:ObF X.K cn f) (he:PE3 X e ta) (hb:attributeBase e f X.env (eval e X.env)=eval e X.env:=by rfl):PE3 X (.Attribute e f pos) (tFld cn f ta):=by
 intro pins s τ G H Q I h
 obtain⟨C,hC,hc,hn⟩:=c.ex
 refine qV7 hb (thn (he pins s τ G H _ I h) fun u s1 w_=>w_.el fun x G1 H1 e1 i_ r_ q=>i_.el fun σ I1 hs1 hg1=>r_.el fun v rv ru=> ?_)
 obtain⟨t,ht,q⟩:=q
 obtain⟨a,fs,rfl,hG,hf⟩:=kXk ht
 cases (show v= .ref a from rv)
 obtain rfl:u=Value.ref a:=ru
 obtain⟨C',dx,ws,hH,hC',pk⟩:=(show ∃C dx ws,H1 a=some (.ins C dx ws)/\CN X.K cn C/\PKV X.K H1 fs ws from hg1 a _ hG)
 cases hC.one hC'
 obtain⟨v',hl,rv'⟩:=(kQ5 pk f).2 t hf
 exact kXj I1 hH hc hn hl fun u' s2 I2 ru'=>⟨t,G1,H1,e1,⟨σ,I2,hs1,hg1⟩,⟨v',rv',ru'⟩,q⟩
theorem jYz (c:ObF X.K cn f) (ha:PE3 X o ta) (hv:PE3 X value tv) (hs:swapsWith value (some (.Attribute o f pos')) pos.line X.env=pure false:=by rfl):PS3 X (.Assign [.Attribute o f pos'] value pos) (jVg cn f ta tv):=by
 intro pins s τ G H D I h
 obtain⟨C,hC,hc,hn⟩:=c.ex
 refine plainObj_wpAny_Assign_Attribute (thn (hv pins s τ G H _ I h) fun u s1 w_=>w_.el fun y G1 H1 e1 I1 ry q1=>thn (ha pins s1 τ G1 H1 _ I1 q1) fun ov s2 w_=>w_.el fun x G2 H2 e2 i_ r_ q=>i_.el fun σ I2 hs2 hg2=>r_.el fun v rv ru=> ?_) hs
 obtain⟨G3,ht,q⟩:=q
 obtain⟨a,fs,rfl,hG,hl,rfl⟩:=kQu ht
 cases (show v= .ref a from rv)
 obtain rfl:ov=Value.ref a:=ru
 obtain⟨C',dx,ws,hH,hC',pk⟩:=(show ∃C dx ws,H2 a=some (.ins C dx ws)/\CN X.K cn C/\PKV X.K H2 fs ws from hg2 a _ hG)
 cases hC.one hC'
 obtain⟨vy,rvy,ruy⟩:=ry.mono e2
 refine kV3 I2 hH hc hn (by rw[<-show fs.length=ws.length from Paired.length pk];exact hl) ruy fun s3 I3=> ?_
 have ext:Ext H2 (upd H2 a (.ins C dx (putF f vy ws))):= .upd (.ins hH)
 exact⟨τ,_,_,(e1.trans e2).trans ext,⟨σ,I3,hs2.mono ext,hg2.upd (.ins hH) (go:= .ins cn (jUv f y fs)) ⟨C,dx,_,jJ8,hC,(qUw pk f rvy).mono ext⟩⟩,q⟩
structure CalM (P:Program) (w:World) (K:PySem.W.Frag) (mg:Str->Option Value) (base:Heap) (k:Nat) (cn m:Str) (ps:List Str) (sp:Sp3):Prop where
 ex:∃C f fd,CN K cn C/\Cls K C/\Meth K C m f/\Fn3 P w K mg base k f fd ps sp/\Binds K fd ps []
 mono:Mono sp
 len:∀xs G Q,sp xs G Q->xs.length=ps.length
structure CalC (P:Program) (w:World) (K:PySem.W.Frag) (mg:Str->Option Value) (base:Heap) (k:Nat) (cn:Str) (ps:List Str) (sp:Sp3):Prop where
 ex:∃C f fd,CN K cn C/\mg cn=some (.ref C)/\Mk K C f/\Fn3 P w K mg base k f fd ps sp/\Binds K fd ps []
 mono:Mono sp
 len:∀xs G Q,sp xs G Q->xs.length=ps.length
theorem jZo {pl:Sem Bool} (M:CalM X.prog X.w X.K X.mg X.base k cn m ps sp) (hr:Room k X.A) (he:PE3 X o ta) (ha:PA3 X (e::es) t)
  (hst:starEach (e::es) X.env=(false,eval e X.env)::starEach es X.env:=by rfl) (hpl:(backTo pos (starEach es X.env)).any (·.1)=false:=by rfl)
  (ht:eval (.Call (.Attribute o m apos) (e::es) [] pos) X.env=(do
   let ov <-eval o X.env
   standAt apos.atName
   let (f,first) <-holding [ov] (getMethod ov m pl)
   callWith pos f first (backTo pos (starEach (e::es) X.env)) (backToKw pos (keywordEach [] X.env))):=by rfl):
  PE3 X (.Call (.Attribute o m apos) (e::es) [] pos) (jJ0 cn m sp ta t):=by
 intro pins s τ G H Q I h
 obtain⟨C,f,fd,hC,hc,hm,F,hb⟩:=M.ex
 refine PySem.W.methodCall_KW (pl:=pl) (thn (he pins s τ G H _ I h) fun u s1 w_=>w_.el fun x G1 H1 e1 I1 r_ q=>r_.el fun v rv ru=> ?_) ht
 obtain⟨ob,q⟩:=q
 obtain⟨a,fs,rfl,hG,hf⟩:=kKx ob
 cases (show v= .ref a from rv)
 obtain rfl:u=Value.ref a:=ru
 obtain⟨σ,J1,hs1,hg1⟩:=id I1
 obtain⟨C',dx,ws,hH,hC',pk⟩:=(show ∃C dx ws,H1 a=some (.ins C dx ws)/\CN X.K cn C/\PKV X.K H1 fs ws from hg1 a _ hG)
 cases hC.one hC'
 refine kJf J1 hH hc hm ((kQ5 pk m).1 hf) ?_
 refine PySem.W.callWith_K (first:=[.ref a]) (h₀:=X.base) J1.ok.mod.kin hm.kp (thn (ha pos pins s1 τ G1 H1 _ I1 q) fun us s2 w_=>w_.el fun xs G2 H2 e2 i_ r_ q2=>i_.el fun σ2 I2 hs2 hg2=>r_.el fun as ras rvs=>⟨I2.kIn,?_⟩) hst hpl
 refine thn (kYa (us:= .ref a::us) (vs:= .ref a::as) (dvs:=[]) (ds:=[]) (E:=E0) (Q:=up X.K H2 Q) F hr hb .nil qKq I2 (.cons rfl rvs) ?_) fun u s' z=>(jVa hs2 z).ext (e1.trans e2)
 rw[List.append_nil]
 have rr:Reps X.K H2 (.ref a::xs) (.ref a::as):=⟨_,_,rfl,rfl,ras⟩
 exact⟨by rw[<-rr.length];exact M.len _ _ _ q2,_,G2,rr,hg2,M.mono _ _ _ _ (fun t G' hq v H' e g r=>⟨t,G',e,g,r,hq⟩) q2⟩
theorem jJ7 {pl:Sem Bool} (M:CalM X.prog X.w X.K X.mg X.base k cn m ps sp) (hr:Room k X.A) (he:PE3 X o ta)
  (ht:eval (.Call (.Attribute o m apos) [] [] pos) X.env=(do
   let ov <-eval o X.env
   standAt apos.atName
   let (f,first) <-holding [ov] (getMethod ov m pl)
   callWith pos f first (backTo pos (starEach [] X.env)) (backToKw pos (keywordEach [] X.env))):=by rfl):
  PE3 X (.Call (.Attribute o m apos) [] [] pos) (jJ0 cn m sp ta tNil):=by
 intro pins s τ G H Q I h
 obtain⟨C,f,fd,hC,hc,hm,F,hb⟩:=M.ex
 refine PySem.W.methodCall_KW (pl:=pl) (thn (he pins s τ G H _ I h) fun u s1 w_=>w_.el fun x G1 H1 e1 i_ r_ q=>i_.el fun σ J1 hs1 hg1=>r_.el fun v rv ru=> ?_) ht
 obtain⟨ob,q⟩:=q
 obtain⟨a,fs,rfl,hG,hf⟩:=kKx ob
 cases (show v= .ref a from rv)
 obtain rfl:u=Value.ref a:=ru
 obtain⟨C',dx,ws,hH,hC',pk⟩:=(show ∃C dx ws,H1 a=some (.ins C dx ws)/\CN X.K cn C/\PKV X.K H1 fs ws from hg1 a _ hG)
 cases hC.one hC'
 refine kJf J1 hH hc hm ((kQ5 pk m).1 hf) ?_
 refine PySem.W.callWith_K0 (first:=[.ref a]) J1.kIn hm.kp ?_
 refine thn (kYa (us:=[.ref a]) (vs:=[.ref a]) (dvs:=[]) (ds:=[]) (E:=E0) (Q:=up X.K H1 Q) F hr hb .nil qKq J1 (.cons rfl .nil) ?_) fun u s' z=>(jVa hs1 z).ext e1
 rw[List.append_nil]
 have rr:Reps X.K H1 [.ref a] [.ref a]:=⟨_,_,rfl,rfl,rfl⟩
 exact⟨by rw[<-rr.length];exact M.len _ _ _ q,_,G1,rr,hg1,M.mono _ _ _ _ (fun t G' hq v H' e g r=>⟨t,G',e,g,r,hq⟩) q⟩
theorem kZ5 (M:CalC X.prog X.w X.K X.mg X.base k cn ps sp) (hr:Room (k+1) X.A) (ha:PA3 X (e::es) t) (hg:Gl X cn:=by rfl)
  (hdb:(cn == ("__debug__":Str))=false:=by decide) (he:starEach (e::es) X.env=(false,eval e X.env)::starEach es X.env:=by rfl) (hpl:(backTo pos (starEach es X.env)).any (·.1)=false:=by rfl):
  PE3 X (.Call (.Name cn p) (e::es) [] pos) (kQr cn sp t):=by
 intro pins s τ G H Q I h
 obtain⟨C,f,fd,hC,hm,hmk,F,hb⟩:=M.ex
 obtain⟨σ0,I0,hs0,hg0⟩:=id I
 refine wpAny_Call_Name_kw (jVw I0 hg hm ?_ hdb)
 refine PySem.W.callWith_K (h₀:=X.base) I0.ok.mod.kin hmk.kp (thn (ha pos pins s τ G H _ I h) fun us s1 w_=>w_.el fun xs G1 H1 e1 i_ r_ q=>i_.el fun σ I1 hs1 hg1=>r_.el fun as ras rvs=>⟨I1.kIn,?_⟩) he hpl
 refine thn (qJ9 (dvs:=[]) (ds:=[]) (E:=E0) (Q:=up X.K H1 Q) hmk F hr hb .nil qKq I1 rvs fun x dx hx hdx ne=> ?_) fun u s' z=>(jVa hs1 z).ext e1
 rw[List.append_nil]
 have x1:Ext H1 (upd H1 dx (.own x)):= .upd (.none hdx)
 have hx1:upd H1 dx (.own x) x=none:=by rw[jJz ne.symm];exact hx
 have x2:Ext (upd H1 dx (.own x)) (upd (upd H1 dx (.own x)) x (.ins C dx [])):= .upd (.none hx1)
 have g1:GRel X.K (upd H1 dx (.own x)) G1:=fun b u eb=>by
  have hb:b≠dx:=by rintro rfl;exact (hg1 b u eb).some hdx
  exact (hg1 b u eb).move x1 (jJz hb)
 have g2:GRel X.K (upd (upd H1 dx (.own x)) x (.ins C dx [])) (gup G1 x (.ins cn [])):=g1.upd (.none hx1) ⟨C,dx,[],jJ8,hC,.nil⟩
 have rr:Reps X.K (upd (upd H1 dx (.own x)) x (.ins C dx [])) (.ref x::xs) (.ref x::as):=⟨_,_,rfl,rfl,Reps.mono (x1.trans x2) _ ras⟩
 have q':=q x (hg1.fresh hx)
 refine⟨by rw[<-rr.length];exact M.len _ _ _ q',_,_,rr,g2,M.mono _ _ _ _ (fun t G' hq v H' e g r=> ?_) q'⟩
 obtain⟨e0,hq⟩:=hq
 subst e0
 exact⟨r,.ref x,G',(x1.trans x2).trans e,g,rfl,hq⟩
end
end L3
namespace L3
open PySem PySem.Spec PyProof.Rows L2 PySem.W
structure Lies (P:Program) (w:World) (outer:List Env) (H:Hp) (s:Shared) (a C:Addr) (B:Heap) (a0:Value) (H':Hp) (s':Shared):Prop where
 os:s'.os=s.os
 bare:AllBare s'.gens
 fly:Heap.FlyingW B outer a (.ref C) a0 s'.heap
 hok:HOk P w H' B
 keep:∀b o,s.heap.get? b=some o->H b=none->b∉frs outer->B.get? b=some o
 there:∀b o,s.heap.get? b=some o->b∉frs outer->∃o',B.get? b=some o'
 slot:∀b o,s.heap.get? b=some o->b∈frs outer->∃sl,s'.heap.get? b=some {o with slots:=sl}
 free:∀b o,s.heap.get? b=some o->H b=none->H' b=none
 tups:∀b xs,H b=some (.tup xs)->H' b=some (.tup xs)
 frzs:∀b o u,H b=some (.frz o u)->H' b=some (.frz o u)
 tbls:∀b ps,H b=some (.tbl ps)->∃more,H' b=some (.tbl (ps++more))
section
variable {P:Program} {w:World} {outer:List Env} {H H':Hp} {s s':Shared} {a C:Addr} {B:Heap} {a0:Value}
theorem Lies.un (l:Lies P w outer H s a C B a0 H' s'):Un (frs outer) [] H H' s.heap s'.heap where
 keep:=fun b o h n f _=>l.fly.1 b o (l.keep b o h n f)
 slot:=fun b o h _ f _=>l.slot b o h f
 free:=fun b o h n _=>l.free b o h n
 there:=fun b o h _=>by
  by_cases f:b∈frs outer
  ·obtain⟨sl,e⟩:=l.slot b o h f
   exact⟨_,e⟩
  ·obtain⟨o',e⟩:=l.there b o h f
   exact⟨o',l.fly.1 b o' e⟩
 tups:=l.tups
 frzs:=l.frzs
 tbls:=l.tbls
theorem kYz {P:Program} {w:World} {H:Hp} {h:Heap} {a:Addr} {o:HO} (x:ObjOk P w H h a o):∃u,h.get? a=some u:=by
 induction o with
 | lst xs=>obtain⟨z,its,n,r,e⟩:=x;exact⟨_,e⟩
 | tup xs=>obtain⟨z,its,r,ob,e,c⟩:=x;exact⟨_,e⟩
 | dK kvs=>obtain⟨z,y,vs,r,ob,es,ep,e,c⟩:=x;exact⟨_,e⟩
 | dT kvs=>obtain⟨z,y,xs,r,ob,es,ep,e,c⟩:=x;exact⟨_,e⟩
 | set S n=>obtain⟨ob,es,ep,t,e,c⟩:=x;exact⟨_,e⟩
 | ins C dx fs=>obtain⟨d,z,ne,e,_⟩:=x;exact⟨_,e⟩
 | own y=>exact x
 | xd fs=>obtain⟨mA,⟨od,es,ep,e,c⟩,r⟩:=x;exact⟨_,e⟩
 | rng lo hi=>obtain⟨t,u,v,e⟩:=x;exact⟨_,e⟩
 | frz ob u ih=>obtain⟨e,q⟩:=x;exact⟨_,e⟩
 | tbl ps=>exact⟨_,x⟩
 | met f y=>exact⟨_,x⟩
 | ext φ=>obtain⟨p,e,st⟩:=x;exact e
theorem Lies.na (l:Lies P w outer H s a C B a0 H' s'):H' a=none:=by
 cases e:H' a with
 | none=>rfl
 | some o=>
  obtain⟨u,hu⟩:=kYz (l.hok a o e)
  rw[l.fly.2.1] at hu;cases hu
end
section
variable {X:Cx} {pins:List (Addr×Obj)} {σ:L2.St} {H H':Hp} {s s':Shared} {a C:Addr} {B:Heap} {a0:Value} {E:Value->Shared->Prop}
theorem qVo {l:List Env}:∀env∈l,∀b,env.frame=some b->b∈frs l:=fun env he b hb=>List.mem_filterMap.mpr ⟨env,he,hb⟩
theorem qK3 (I:Inv X pins σ H s) (hs:X.stack=X.env::X.outer) (hf:X.env.frame=some X.env.locals) (hex:X.ex=[]) {args:List Value} (hm:Heap.MadeExcOf s.heap s'.heap a (.ref C) args) (ho:s'.os=s.os) (hg:s'.gens=s.gens) {Q:Unit->Shared->Prop}
  (k:∀B a0 h',Lies X.prog X.w X.outer X.H₀ X.s₀ a C B a0 H {s' with heap:=h'}->Q () {s' with heap:=h'}):wpAny (model X.prog X.w) X.A (leaving X.env (.ref a)) Q E s':=by
 have hst:=I.stack
 have hfr:X.A.frames=some (X.env::X.outer):=by rw[I.ok.frames,hs]
 rw[hs] at hst
 have sub:∀b,b∈frs (X.env::X.outer)↔b=X.env.locals\/b∈frs X.outer:=fun b=>by
  unfold frs;rw[List.filterMap_cons,hf];exact List.mem_cons
 have inB:∀b o,s.heap.get? b=some o->b≠X.env.locals->b∉frs X.outer->(hideAll s.heap (frs (X.env::X.outer))).get? b=some o:=fun b o h n f=>
  hideAll_get _ h fun z=>((sub b).mp z).elim n f
 have nex:∀b,b∉X.ex:=fun b=>by rw[hex];exact List.not_mem_nil
 have old:∀b o,X.s₀.heap.get? b=some o->b≠X.env.locals:=fun b o h z=>by
  rw[z] at h;exact absurd (Heap.lt_size h) (Nat.not_lt.mpr I.ok.above)
 refine wpAny_leaves_madeW hfr hf (fun b o h=>of_hideAll _ h) (funFrames_hide hst fun env he b hb=>qVo env he b hb) hm fun h' t fl tp nt up=> ?_
 refine k (hideAll s.heap (frs (X.env::X.outer))) (.ref t) h' ⟨ho.trans I.os,by rw[show ({s' with heap:=h'}:Shared).gens=s.gens from hg];exact I.bare,fl,?_,?_,?_,?_,fun b o h n=>I.base.free b o h n (nex b),I.base.tups,I.base.frzs,I.base.tbls⟩
 ·intro b o e
  refine (I.hok b o e).stay (fun c u hc h=>hideAll_get _ h fun z=> ?_) (fun _ q=>q) fun _ _ q=>q
  have hn:=I.stkFree c (by rw[hs];exact z)
  rcases hc with rfl | hc
  ·rw[e] at hn;cases hn
  ·rw[hc] at hn;cases hn
 ·intro b o h n f
  exact inB b o (I.base.keep b o h n f (nex b)) (old b o h) f
 ·intro b o h f
  obtain⟨o',h'⟩:=I.base.there b o h (nex b)
  exact⟨o',inB b o' h' (old b o h) f⟩
 ·intro b o h f
  obtain⟨sl,e1⟩:=I.base.slot b o h (I.ok.frf b f) f (nex b)
  obtain⟨_,o',ho',hd⟩:=I.funs.mem f
  rw[e1] at ho'
  cases ho'
  obtain⟨sl',e2⟩:=(Heap.UpToSlots.of_keeps hm.keeps).trans up b _ e1 hd
  exact⟨sl',e2⟩
theorem qU7 (I:Inv X pins σ H s) (hs:X.stack=X.env::X.outer) (hf:X.env.frame=some X.env.locals) (hex:X.ex=[]) (l:Lies X.prog X.w X.stack H s a C B a0 H' s') {Q:Unit->Shared->Prop}
  (k:∀h',Lies X.prog X.w X.outer X.H₀ X.s₀ a C B a0 H' {s' with heap:=h'}->Q () {s' with heap:=h'}):wpAny (model X.prog X.w) X.A (leaving X.env (.ref a)) Q E s':=by
 have hfr:X.A.frames=some (X.env::X.outer):=by rw[I.ok.frames,hs]
 have sub:∀b,b∈frs X.stack↔b=X.env.locals\/b∈frs X.outer:=fun b=>by
  rw[hs];unfold frs;rw[List.filterMap_cons,hf];exact List.mem_cons
 have nex:∀b,b∉X.ex:=fun b=>by rw[hex];exact List.not_mem_nil
 have old:∀b o,X.s₀.heap.get? b=some o->b≠X.env.locals:=fun b o h z=>by
  rw[z] at h;exact absurd (Heap.lt_size h) (Nat.not_lt.mpr I.ok.above)
 have nst:∀b o,X.s₀.heap.get? b=some o->b∉frs X.outer->b∉frs X.stack:=fun b o h f z=>((sub b).mp z).elim (old b o h) f
 refine wpAny_leaves_onW hfr hf (by rw[<-hs];exact l.fly) fun h' fl up=>k h' ⟨l.os.trans I.os,l.bare,fl,l.hok,?_,?_,?_,?_,?_,?_,?_⟩
 ·intro b o h n f
  exact l.keep b o (I.base.keep b o h n f (nex b)) (I.base.free b o h n (nex b)) (nst b o h f)
 ·intro b o h f
  obtain⟨o',e⟩:=I.base.there b o h (nex b)
  exact l.there b o' e (nst b o h f)
 ·intro b o h f
  obtain⟨sl,e1⟩:=I.base.slot b o h (I.ok.frf b f) f (nex b)
  obtain⟨sl',e2⟩:=l.slot b _ e1 ((sub b).mpr (.inr f))
  obtain⟨_,o',ho',hd⟩:=I.funs.mem f
  rw[e1] at ho'
  cases ho'
  obtain⟨sl3,e3⟩:=up b _ e2 hd
  exact⟨sl3,e3⟩
 ·intro b o h n
  obtain⟨o',e⟩:=I.base.there b o h (nex b)
  exact l.free b o' e (I.base.free b o h n (nex b))
 ·exact fun b xs h=>l.tups b xs (I.base.tups b xs h)
 ·exact fun b o u h=>l.frzs b o u (I.base.frzs b o u h)
 ·intro b ps h
  obtain⟨m1,e1⟩:=I.base.tbls b ps h
  obtain⟨m2,e2⟩:=l.tbls b _ e1
  exact⟨m1++m2,by rw[e2,Array.append_assoc]⟩
theorem kY9 (I:Inv X pins σ H s) (l:Lies X.prog X.w X.stack H s a C B a0 H' s') (hs:X.stack=X.env::X.outer) (hf:X.env.frame=some X.env.locals) {Q:Unit->Shared->Prop}
  (k:∀h',Inv X pins σ H' {s' with heap:=h'}->Lies X.prog X.w X.stack H s a C B a0 H' {s' with heap:=h'}->Q () {s' with heap:=h'}):
  wpAny (model X.prog X.w) X.A (noteFrame (.ref a) X.env) (fun _ s2=>wpAny (model X.prog X.w) X.A (setFlight (.ref a) none) Q E s2) E s':=by
 have hfr:X.A.frames=some (X.env::X.outer):=by rw[I.ok.frames,hs]
 refine wpAny_looks_onW hfr hf (by rw[<-hs];exact l.fly) fun h1 hd up1=> ?_
 refine wpAny_landsW (s:={s' with heap:=h1}) hd fun h2 fl up2=> ?_
 have l2:Lies X.prog X.w X.stack H s a C B a0 H' {s' with heap:=h2}:=by
  refine⟨l.os,l.bare,by rw[hs];exact fl,l.hok,l.keep,l.there,fun b o h f=> ?_,l.free,l.tups,l.frzs,l.tbls⟩
  obtain⟨sl,e⟩:=l.slot b o h f
  obtain⟨_,o',ho',hd'⟩:=I.stack.mem f
  rw[h] at ho'
  cases ho'
  obtain⟨sl2,e2⟩:=(up1.trans up2) b _ e hd'
  exact⟨sl2,e2⟩
 exact k h2 (I.call' l2.os l2.un (l2.hok.kept fun b u e=>l2.fly.1 b u e) l2.bare fun b z=>absurd z List.not_mem_nil) l2
end
abbrev XK3:=Str->Gp->Prop
abbrev SpX:=List T->Gp->VK3->XK3->Prop
def vmro:List Value:=[.type "ValueError",.type "Exception",.type "BaseException",.type "object"]
structure ExC (K:PySem.W.Frag) (mg:Str->Option Value) (cn:Str):Prop where
 ex:∃C,CN K cn C/\mg cn=some (.ref C)/\excIn K C vmro "ValueError.__new__"=true
theorem exc_at {K:PySem.W.Frag} {C:Addr} {bmB:List Value} {newId:String} (q:excIn K C bmB newId=true):
  ∃bm N nm qn bs hdct sn sub ab col dd k0 k1 k2 k3 k5,K.lookup C=some (excClassObj nm qn C N bs bm hdct sn sub ab col dd k0 k1 k2 k3 k5 newId)/\nsOkIn K N=true/\nsIn K N "__init__"=some none/\tailIn K bmB bm=true:=by
 unfold excIn at q
 split at q
 ·rename_i dd cd sl ho
  split at q
  ·rename_i C' bm k0 k1 k2 k3 n k5 hm hs
   (simp only[Bool.and_eq_true,beq_iff_eq,Bool.not_eq_true'] at q)
   obtain⟨⟨⟨⟨⟨rfl,rfl⟩,z⟩,ht⟩,hok⟩,hni⟩:=q
   (obtain⟨nm,bs,mro,ns,qn,hd,sn,sub,ab,col,del⟩:=cd)
   dsimp only at hm z hok hni
   subst hm z
   have e:sl= #[k0,k1,k2,k3,some (.builtin n),k5]:=by
    obtain⟨l⟩:=sl
    simp only at hs
    rw[hs]
   subst e
   exact⟨bm,ns,nm,qn,bs,hd,sn,sub,ab,col,dd,k0,k1,k2,k3,k5,ho,hok,hni,ht⟩
  ·cases q
 ·cases q
theorem qU4 {K:PySem.W.Frag} {h h':Heap} {N:Addr} {m:Str->Option Value} (X:K.In h) (X':K.In h') (e:nsOkIn K N=true) (hn:h.Ns N m):h'.Ns N m:=by
 unfold nsOkIn at e
 split at e
 ·rename_i ho
  obtain⟨o,es,ep,h1,r⟩:=hn
  have:=X _ _ ho
  rw[h1] at this
  cases this
  exact⟨_,es,ep,X' _ _ ho,r⟩
 ·cases e
theorem kX2 {h:Heap} {bm:List Value} (t:OwnTail h vmro bm):bm.contains (.type "BaseException")=true:=t.hasType (by decide)
def CXX (P:Program) (w:World):CXT:=fun outer H s E e s'=>∃a C B a0 H',e= .ref a/\Lies P w outer H s a C B a0 H' s'/\E e (some C) H'
structure XR (X:Cx) (R:XK3):Prop where
 raise_:∀(pins:List (Addr×Obj)) (σ:L2.St) (H1:Hp) (G1:Gp) (s1 s':Shared) (a C:Addr) (cn:Str) (args:List Value),Inv X pins σ H1 s1->GRel X.K H1 G1->CN X.K cn C->Heap.MadeExcOf s1.heap s'.heap a (.ref C) args->s'.os=s1.os->s'.gens=s1.gens->R cn G1->X.xe (.ref a) s'
 pass:∀(pins:List (Addr×Obj)) (σ:L2.St) (H1:Hp) (s1 s':Shared) (a C:Addr) (cn:Str) (B:Heap) (a0:Value) (H':Hp) (G':Gp),Inv X pins σ H1 s1->Lies X.prog X.w X.stack H1 s1 a C B a0 H' s'->GRel X.K H' G'->CN X.K cn C->R cn G'->X.xe (.ref a) s'
 own:PassesOwn (model X.prog X.w) X.A X.env X.xe
noncomputable def dnX (K:PySem.W.Frag) (n:Nat) (sp:SpX):Sp:=fun vs H Q E=>vs.length=n/\∃xs G,Reps K H xs vs/\GRel K H G/\sp xs G (fun t G'=>∀v H',Ext H H'->GRel K H' G'->Rep K H' t v->Q v H') (fun cn G'=>∀e C H',Ext H H'->GRel K H' G'->CN K cn C->E e (some C) H')
noncomputable def FnX (P:Program) (w:World) (K:PySem.W.Frag) (mg:Str->Option Value) (base:Heap) (k:Nat) (f:Addr) (fd:FuncData) (ps:List Str) (sp:SpX):Prop:=FnOk P w K mg base (CXX P w) k f fd ps (dnX K ps.length sp)
theorem fnX {P:Program} {w:World} {K:PySem.W.Frag} {mg:Str->Option Value} {base:Heap} {x qual:Str} {st:Stmt} {f:Addr} {fd:FuncData} {N ps:List Str} {k:Nat} {sp:SpX} (F:Fun K x qual st f fd) (S:FnScope N ps (jJl st))
  (hbody:∀(cdv:Value) (A:Around) (outer:List Env) (s:Shared) (H:Hp) (E:XK) (R:XK3),Room k (A.deeper (envOfC qual (jJl st) s.heap.objs.size f cdv))->XR (cxOf (CXX P w) P w K mg base N qual (jJl st) f cdv A outer s H E) R->
   ∃t,PSs3 (cxOf (CXX P w) P w K mg base N qual (jJl st) f cdv A outer s H E) (jKi st) t/\∀xs G Q,sp xs G Q R->t {nx:=fun _ G'=>Q .non G',rt:=Q} (jKj N xs) G):FnX P w K mg base (k+1) f fd ps sp:=by
 obtain⟨oc,od,kV,doc,pm,an,cdv,ct,osl,rfl,lk,hcd⟩:=F.ex
 refine fn_of (sp:=dnX K ps.length sp) lk hcd S (fun vs H Q E h=>h.1) fun A outer s H vs Q E hr hsp=> ?_
 obtain⟨hl,xs,G,rs,hg,hsp⟩:=hsp
 have hXR:XR (cxOf (CXX P w) P w K mg base N qual (jJl st) f cdv A outer s H E) (fun cn G'=>∀e C H',Ext H H'->GRel K H' G'->CN K cn C->E e (some C) H'):=by
  refine⟨?_,?_,PassesOwn.leaving⟩
  ·intro pins σ H1 G1 s1 s' a C cn args I g1 hc hm ho hg' hR
   exact qK3 I rfl rfl rfl hm ho hg' fun B a0 h' l=>⟨a,C,B,a0,H1,rfl,l,hR (.ref a) C H1 ⟨I.base.tups,I.base.frzs⟩ g1 hc⟩
  ·intro pins σ H1 s1 s' a C cn B a0 H' G' I l g1 hc hR
   refine qU7 I rfl rfl rfl l fun h' l'=>⟨a,C,B,a0,H',rfl,l',hR (.ref a) C H' ⟨l'.tups,l'.frzs⟩ g1 hc⟩
 obtain⟨t,ht,hq⟩:=hbody cdv A outer s H E _ hr hXR
 ·refine⟨fun D σ H1=>D.nx=(fun _ H'=>Q .non H')/\D.rt=Q/\σ=L2.start N vs/\H1=H,?_,rfl,rfl,rfl,rfl⟩
  rintro pins s1 σ1 H1 D I ⟨e1,e2,e3,e4⟩
  subst e3;subst e4
  have I3:Inv3 (cxOf (CXX P w) P w K mg base N qual (jJl st) f cdv A outer s H1 E) pins (jKj N xs) G H1 s1:=⟨_,I,kKn rs,hg⟩
  refine thn (ht pins s1 _ G H1 _ I3 (hq xs G _ hsp)) fun fl s2 z=> ?_
  cases fl with
  | next=>obtain⟨τ',G',H',e',⟨σ',I',a,b⟩,q⟩:=z;exact⟨σ',H',I',by rw[e1];exact q .non H' e' b rfl⟩
  | brk=>obtain⟨τ',G',H',e',_,q⟩:=z;exact q.elim
  | cont=>obtain⟨τ',G',H',e',_,q⟩:=z;exact q.elim
  | ret u=>obtain⟨x',τ',G',H',e',⟨σ',I',a,b⟩,⟨v,rv,ru⟩,q⟩:=z;exact⟨v,σ',H',I',ru,by rw[e2];exact q v H' e' b rv⟩
def kXr (sp:SpX):Prop:=∀xs G Q Q' R R',(∀t G',Q t G'->Q' t G')->(∀c G',R c G'->R' c G')->sp xs G Q R->sp xs G Q' R'
structure CalX (P:Program) (w:World) (K:PySem.W.Frag) (mg:Str->Option Value) (base:Heap) (k:Nat) (x:Str) (ps:List Str) (sp:SpX):Prop where
 ex:∃f fd,FnX P w K mg base k f fd ps sp/\mg x=some (.ref f)/\PySem.W.keepIn K (.ref f)=true/\Binds K fd ps []
 mono:kXr sp
 len:∀xs G Q R,sp xs G Q R->xs.length=ps.length
def jQw (sp:SpX) (R:XK3) (t:TA3):TE3:=fun τ G Q=>t τ G fun xs G1=>sp xs G1 Q R
section
variable {X:Cx}
theorem kX9 {k:Nat} {f:Addr} {fd:FuncData} {ps:List Str} {sp:SpX} {pins:List (Addr×Obj)} {σ:L2.St} {τ:St3} {H1:Hp} {G1:Gp} {s1:Shared} {xs:List T} {as:List V} {us:List Value} {Q:VK3} {R:XK3} {E:Value->Shared->Prop} (F:FnX X.prog X.w X.K X.mg X.base k f fd ps sp) (hr:Room k X.A) (hb:Binds X.K fd ps []) (mono:kXr sp) (len:∀xs G Q R,sp xs G Q R->xs.length=ps.length)
  (I1:Inv X pins σ H1 s1) (hs1:SRel X.K H1 σ τ) (hg1:GRel X.K H1 G1) (ras:Reps X.K H1 xs as) (rvs:Vals as us) (q:sp xs G1 Q R)
  (hE:∀a C cn B a0 H' G' s',Lies X.prog X.w X.stack H1 s1 a C B a0 H' s'->Ext H1 H'->GRel X.K H' G'->CN X.K cn C->R cn G'->E (.ref a) s'):
  wpAny (model X.prog X.w) X.A (call (.ref f) us) (EP3 X pins τ H1 Q) E s1:=by
 have hl:us.length=ps.length:=by rw[<-rvs.length,<-ras.length];exact len _ _ _ _ q
 refine wpAny_call (codeAny_mono (F.run X.A X.stack s1 H1 ⟨us,[]⟩ (us++[]) as (up X.K H1 Q) (fun _ c H'=>∃cn C G',c=some C/\CN X.K cn C/\Ext H1 H'/\GRel X.K H' G'/\R cn G') hr I1.env0 (hb s1 us I1.kIn (by rw[List.append_nil];exact hl)) (by rw[List.append_nil];exact rvs) ?_) fun r s' hq=> ?_)
 ·exact⟨by rw[<-ras.length];exact len _ _ _ _ q,xs,G1,ras,hg1,mono _ _ _ _ _ _ (fun t G' hq v H' e g r=>⟨t,G',e,g,r,hq⟩) (fun cn G' hR e C H' e1 g hc=>⟨cn,C,G',rfl,hc,e1,g,hR⟩) q⟩
 ·cases r with
  | error e=>
   obtain⟨a,C,B,a0,H',rfl,l,cn,C',G',ec,hc,e1,g,hR⟩:=(show CXX X.prog X.w X.stack H1 s1 (fun _ c H'=>∃cn C G',c=some C/\CN X.K cn C/\Ext H1 H'/\GRel X.K H' G'/\R cn G') e s' from hq)
   cases ec
   exact hE a C cn B a0 H' G' s' l e1 g hc hR
  | ok fl=>
   cases fl with
   | ret u=>exact jVa hs1 (I1.after hq)
   | next=>exact False.elim hq
   | brk=>exact False.elim hq
   | cont=>exact False.elim hq
theorem kK9 {k:Nat} {ps:List Str} {sp:SpX} {R:XK3} {x:Str} {p pos:Pos} {e:Expr} {es:List Expr} {t:TA3} (C:CalX X.prog X.w X.K X.mg X.base k x ps sp) (hx:XR X R) (hr:Room k X.A) (ha:PA3 X (e::es) t) (hg:Gl X x:=by rfl)
  (hdb:(x == ("__debug__":Str))=false:=by decide) (he:starEach (e::es) X.env=(false,eval e X.env)::starEach es X.env:=by rfl) (hpl:(backTo pos (starEach es X.env)).any (·.1)=false:=by rfl):
  PE3 X (.Call (.Name x p) (e::es) [] pos) (jQw sp R t):=by
 intro pins s τ G H Q I h
 obtain⟨f,fd,F,hm,hk,hb⟩:=C.ex
 obtain⟨σ0,I0,hs0,hg0⟩:=id I
 refine wpAny_Call_Name_kw (jVw I0 hg hm ?_ hdb)
 refine PySem.W.callWith_K (h₀:=X.base) I0.ok.mod.kin hk (thn (ha pos pins s τ G H _ I h) fun us s1 w_=>w_.el fun xs G1 H1 e1 i_ r_ q=>i_.el fun σ I1 hs1 hg1=>r_.el fun as ras rvs=>⟨I1.kIn,?_⟩) he hpl
 exact thn (kX9 F hr hb C.mono C.len I1 hs1 hg1 ras rvs q fun a C' cn B a0 H' G' s' l _ g hc hR=>hx.pass pins σ H1 s1 s' a C' cn B a0 H' G' I1 l g hc hR) fun u s' z=>z.ext e1
def jYt (R:XK3) (cn:Str):TS3:=fun _ _ G=>R cn G
theorem kU0 {R:XK3} {cn v:Str} {a:Expr} {np cpos pos:Pos} (hx:XR X R) (hC:ExC X.K X.mg cn) (hc:X.calm=true) (ha:PA3 X [a] (jJb (tC (.str v)) tNil)) (hg:Gl X cn:=by rfl) (hdb:(cn == ("__debug__":Str))=false:=by decide)
  (he:starEach [a] X.env=[(false,eval a X.env)]:=by rfl):
  PS3 X (.Raise (some (.Call (.Name cn np) [a] [] cpos)) none pos) (jYt R cn):=by
 intro pins s τ G H D I h
 obtain⟨C,hcn,hmg,hin⟩:=hC.ex
 obtain⟨σ,I0,hs,hgr⟩:=id I
 obtain⟨bm,N,nm,qn,bs,hdct,sn,sub,ab,col,dd,k0,k1,k2,k3,k5,hC0,hok,hni,ht⟩:=exc_at hin
 refine wpAny_Raise_call_subU (C:=C) (N:=N) (nm:=nm) (q:=qn) (bs:=bs) (bm:=bm) (hdct:=hdct) (sn:=sn) (sub:=sub) (ab:=ab) (col:=col) (dd:=dd) (k0:=k0) (k1:=k1) (k2:=k2) (k3:=k3) (k5:=k5) (mN:=s.heap.nsMap N) (bmB:=vmro) PySem.F.excBase_ValueError (by decide) PySem.F.excBase_ValueError (kX2 (tail_of_in I0.kIn ht)) (I0.ok.hd hc) (by rw[he];rfl) (nsMap_none_of_in I0.kIn hok hni) ?_
 refine jVw I0 hg hmg ⟨rfl,?_⟩ hdb
 rw[show backTo cpos (starEach [a] X.env)=[(false,eval a X.env)] by rw[he];rfl]
 refine Calls.evalArgs_plain ?_
 have:=ha cpos pins s τ G H (fun ts G'=>ts.length=1/\R cn G') I ⟨rfl,h⟩
 rw[show backTo cpos (starEach [a] X.env)=[(false,eval a X.env)] by rw[he];rfl] at this
 refine thn this fun us s1 w_=>w_.el fun xs G1 H1 e1 i_ r_ q=>i_.el fun σ1 I1 hs1 hg1=>r_.el fun as ras rvs=> ?_
 have hl:us.length=1:=by rw[<-rvs.length,<-ras.length];exact q.1
 refine⟨rfl,by rw[hl];decide,I1.kIn _ _ hC0,qU4 I0.kIn I1.kIn hok (.of_isNs (isNs_of_in I0.kIn hok)),tail_of_in I1.kIn ht,fun h' b hm=> ?_⟩
 exact hx.raise_ pins σ1 H1 G1 s1 {s1 with heap:=h'} b C cn us I1 hg1 hcn hm rfl rfl q.2
end
abbrev RX3:=Str->St3->Gp->Prop
abbrev TEx:=St3->Gp->VK3->RX3->Prop
abbrev TSx:=Ends3->RX3->St3->Gp->Prop
section
variable {X:Cx}
noncomputable def XP (X:Cx) (pins:List (Addr×Obj)) (H:Hp) (R:RX3) (e:Value) (s':Shared):Prop:=∃a C cn B a0 τ' G1 H1 s1 G' H',e= .ref a/\Ext H H1/\Inv3 X pins τ' G1 H1 s1/\Lies X.prog X.w X.stack H1 s1 a C B a0 H' s'/\Ext H1 H'/\GRel X.K H' G'/\CN X.K cn C/\R cn τ' G'
theorem XP.ext {pins:List (Addr×Obj)} {H H1:Hp} {R:RX3} {e:Value} {s':Shared} (x:Ext H H1) (h:XP X pins H1 R e s'):XP X pins H R e s':=by
 obtain⟨a,C,cn,B,a0,τ',G1,H2,s1,G',H',e1,e2,r⟩:=h
 exact⟨a,C,cn,B,a0,τ',G1,H2,s1,G',H',e1,x.trans e2,r⟩
noncomputable def PEx (X:Cx) (e:Expr) (t:TEx):Prop:=∀(pins:List (Addr×Obj)) (s:Shared) (τ:St3) (G:Gp) (H:Hp) (Q:VK3) (R:RX3),Inv3 X pins τ G H s->t τ G Q R->wpAny (model X.prog X.w) X.A (eval e X.env) (EP3 X pins τ H Q) (XP X pins H R) s
noncomputable def PSx (X:Cx) (st:Stmt) (t:TSx):Prop:=∀(pins:List (Addr×Obj)) (s:Shared) (τ:St3) (G:Gp) (H:Hp) (D:Ends3) (R:RX3),Inv3 X pins τ G H s->t D R τ G->wpAny (model X.prog X.w) X.A (exec st X.env) (SP3 X pins H D) (XP X pins H R) s
noncomputable def PSsx (X:Cx) (st:List Stmt) (t:TSx):Prop:=∀(pins:List (Addr×Obj)) (s:Shared) (τ:St3) (G:Gp) (H:Hp) (D:Ends3) (R:RX3),Inv3 X pins τ G H s->t D R τ G->wpAny (model X.prog X.w) X.A (execs st X.env) (SP3 X pins H D) (XP X pins H R) s
def Calm (X:Cx):Prop:=∀e s,¬ X.xe e s
theorem Calm.any (h:Calm X) {α:Type} {m:Sem α} {Q:α->Shared->Prop} {E:Value->Shared->Prop} {s:Shared} (w:wpAny (model X.prog X.w) X.A m Q X.xe s):wpAny (model X.prog X.w) X.A m Q E s:=
 wpAny_mono w (fun _ _ z=>z) fun e s z=>absurd z (h e s)
def kX5 (sp:SpX) (t:TA3):TEx:=fun τ G Q R=>t τ G fun xs G1=>sp xs G1 Q fun cn G'=>R cn τ G'
theorem kZy {k:Nat} {ps:List Str} {sp:SpX} {x:Str} {p pos:Pos} {e:Expr} {es:List Expr} {t:TA3} (hn:Calm X) (C:CalX X.prog X.w X.K X.mg X.base k x ps sp) (hr:Room k X.A) (ha:PA3 X (e::es) t) (hg:Gl X x:=by rfl)
  (hdb:(x == ("__debug__":Str))=false:=by decide) (he:starEach (e::es) X.env=(false,eval e X.env)::starEach es X.env:=by rfl) (hpl:(backTo pos (starEach es X.env)).any (·.1)=false:=by rfl):
  PEx X (.Call (.Name x p) (e::es) [] pos) (kX5 sp t):=by
 intro pins s τ G H Q R I h
 obtain⟨f,fd,F,hm,hk,hb⟩:=C.ex
 obtain⟨σ0,I0,hs0,hg0⟩:=id I
 refine wpAny_Call_Name_kw (jVw I0 hg hm ?_ hdb)
 refine PySem.W.callWith_K (h₀:=X.base) I0.ok.mod.kin hk (thn (hn.any (ha pos pins s τ G H _ I h)) fun us s1 w_=>w_.el fun xs G1 H1 e1 i_ r_ q=>i_.el fun σ I1 hs1 hg1=>r_.el fun as ras rvs=>⟨I1.kIn,?_⟩) he hpl
 refine thn (kX9 F hr hb C.mono C.len I1 hs1 hg1 ras rvs q fun a C' cn B a0 H' G' s' l ex g hc hR=> ?_) fun u s' z=>z.ext e1
 exact⟨a,C',cn,B,a0,τ,G1,H1,s1,G',H',rfl,e1,⟨σ,I1,hs1,hg1⟩,l,ex,g,hc,hR⟩
def kKm (te:TEx):TSx:=fun D R τ G=>te τ G (fun _ G1=>D.nx τ G1) R
theorem kQt {e:Expr} {te:TEx} {pos:Pos} (he:PEx X e te) (hs:swapsWith e none pos.line X.env=pure false:=by rfl):PSx X (.Expr e pos) (kKm te):=by
 intro pins s τ G H D R I h
 obtain⟨σ,I0,hs0,hg0⟩:=id I
 exact wpAny_Expr_any (thn (he pins s τ G H _ R I h) fun v s1 w_=>w_.el fun x G1 H1 e1 I1 r1 q1=>⟨τ,G1,H1,e1,I1,q1⟩) I0.quiet hs
def tIfX (tc:TT3) (t u:TSx):TSx:=fun D R τ G=>tc τ G fun b G1=>if b=true then t D R τ G1 else u D R τ G1
theorem sx_if {c:Expr} {a b:List Stmt} {tc:TT3} {t u:TSx} {pos:Pos} (hn:Calm X) (hc:PT3 X c tc) (ha:PSsx X a t) (hb:PSsx X b u):PSx X (.If c a b pos) (tIfX tc t u):=by
 intro pins s τ G H D R I h
 refine wpAny_If (thn (hn.any (hc pins s τ G H _ I h)) fun d s1 w_=>w_.el fun G1 H1 e1 I1 q1=> ?_)
 cases d with
 | true=>exact wpAny_mono (ha pins s1 τ G1 H1 D R I1 q1) (fun _ _ z=>z.ext e1) fun _ _ z=>z.ext e1
 | false=>exact wpAny_mono (hb pins s1 τ G1 H1 D R I1 q1) (fun _ _ z=>z.ext e1) fun _ _ z=>z.ext e1
theorem jYv {st:Stmt} {t:TSx} (h1:PSx X st t):PSsx X [st] t:=by
 intro pins s τ G H D R I h
 refine wpAny_execs_cons (thn (h1 pins s τ G H D R I h) fun f s1 q=> ?_)
 cases f with
 | next=>exact wpAny_execs_nil q
 | ret v=>exact q
 | brk=>exact q
 | cont=>exact q
end
section
variable {X:Cx} {pins:List (Addr×Obj)} {σ:L2.St} {H H':Hp} {s s':Shared} {a C:Addr} {B:Heap} {a0:Value}
abbrev hX (X:Cx) (a:Addr):Cx:={X with A:=X.A.mark (some (.ref a)),calm:=false}
theorem Inv.mark (I:Inv X pins σ H s) (a:Addr):Inv (hX X a) pins σ H s:=
 ⟨⟨I.ok.mod,I.ok.kind,I.ok.glob,I.ok.blt,I.ok.above,I.ok.inj,I.ok.has,I.ok.cab,fun z=>Bool.noConfusion z,fun z=>Bool.noConfusion z,I.ok.frames,I.ok.stk,I.ok.exf,I.ok.bs,I.ok.bsz,I.ok.noex,I.ok.exfs,I.ok.funs,I.ok.frf⟩,I.os,I.bare,I.base,I.loc,I.cell,I.free,I.freeC,I.pin,I.hok,I.len⟩
theorem Inv.unmark (I:Inv (hX X a) pins σ H s) (ok:X.Ok):Inv X pins σ H s:=⟨ok,I.os,I.bare,I.base,I.loc,I.cell,I.free,I.freeC,I.pin,I.hok,I.len⟩
theorem Inv3.mark {τ:St3} {G:Gp} (I:Inv3 X pins τ G H s) (a:Addr):Inv3 (hX X a) pins τ G H s:=let ⟨σ,I,x,y⟩:=I;⟨σ,Inv.mark I a,x,y⟩
theorem Inv3.unmark {τ:St3} {G:Gp} (I:Inv3 (hX X a) pins τ G H s) (ok:X.Ok):Inv3 X pins τ G H s:=let ⟨σ,I,x,y⟩:=I;⟨σ,Inv.unmark I ok,x,y⟩
theorem qJz {M:Model} {A:Around} {E:Value->Shared->Prop} {i:Nat} {x:Str} {v:V} {Q:Unit->Shared->Prop} (I:Inv X pins σ H s) (hN:X.N.Nodup) (hi:X.N[i]? =some x) (hk:X.env.scope.names.lookup x=some .local) (hv:σ[i]? =some (some v))
  (h:∀s',Inv X pins (σ.set i none) H s'->Q () s'):wpAny M A (unbindName X.env x) Q E s:=by
 obtain⟨m,hn,hl⟩:=id I.loc
 have hcls:(X.env.scope.kind == .class||(X.env.scope.kind == .module&&X.env.locals != X.env.globals))=false:=by rw[I.ok.kind];rfl
 have cne:=I.cne
 have hval:∃u,m x=some u:=by
  obtain⟨u,_,q⟩:=hl i x v hi hv (.inl hk)
  rcases q with ⟨_,e⟩ | ⟨k,_⟩
  ·exact⟨u,e⟩
  ·rcases k with k | k<;>(rw[show X.env.kindOf x=some .local from hk] at k;cases k)
 obtain⟨u0,hu0⟩:=hval
 obtain⟨oL,_,_,hoL,_⟩:=id hn
 refine wpAny_unbindName_local hk hn hu0 hcls fun h' u hn' hs=> ?_
 refine h _ ⟨I.ok,I.os,I.bare,⟨fun b o e n hb hx=> ?_,fun b o e n hb hx=> ?_,I.base.free,fun b o e hx=> ?_,I.base.tups,I.base.frzs,I.base.tbls⟩,⟨_,hn',fun j y v' e1 e2 e3=> ?_⟩,fun y c e=> ?_,I.free,I.freeC,fun p hp=> ?_,fun b ob e=> ?_,by simpa using I.len⟩
 ·exact (hs.2 b (Nat.ne_of_lt (Nat.lt_of_lt_of_le (Heap.lt_size e) I.ok.above))).trans (I.base.keep b o e n hb hx)
 ·obtain⟨sl,e1⟩:=I.base.slot b o e n hb hx
  exact⟨sl,(hs.2 b (Nat.ne_of_lt (Nat.lt_of_lt_of_le (Heap.lt_size e) I.ok.above))).trans e1⟩
 ·obtain⟨o',e1⟩:=I.base.there b o e hx
  exact⟨o',(hs.2 b (Nat.ne_of_lt (Nat.lt_of_lt_of_le (Heap.lt_size e) I.ok.above))).trans e1⟩
 ·by_cases hj:j=i
  ·subst hj
   by_cases hlt:j<σ.length
   ·rw[List.getElem?_set_self hlt] at e2;cases e2
   ·rw[List.getElem?_eq_none (by simpa using Nat.not_lt.mp hlt)] at e2;cases e2
  ·rw[List.getElem?_set_ne (Ne.symm hj)] at e2
   obtain⟨u',r',q⟩:=hl j y v' e1 e2 e3
   refine⟨u',r',?_⟩
   rcases q with ⟨k,e⟩ | ⟨k,c,e,z⟩
   ·refine .inl ⟨k,?_⟩
    have:y≠x:=fun e=>hj (kJ3 hN e1 (e▸hi))
    simp[this,e]
   ·exact .inr ⟨k,c,e,z.sameBut hs (cne y c e)⟩
 ·obtain⟨w',z⟩:=I.cell y c e
  exact⟨w',z.sameBut hs (cne y c e)⟩
 ·obtain⟨e,n,ne,nf,d⟩:=I.pin p hp
  exact⟨(hs.2 p.1 ne).trans e,n,ne,nf,d⟩
 ·refine (I.hok b ob e).stay (fun c w' hc q=>(hs.2 c ?_).trans q) (fun _ q=>q) fun _ _ q=>q
  rintro rfl
  rcases hc with rfl | hc
  ·rw[I.free] at e;cases e
  ·rw[I.free] at hc;cases hc
theorem kY5 {M:Model} {A:Around} {E:Value->Shared->Prop} {i:Nat} {x:Str} {pos:Pos} {Q:Unit->Shared->Prop} (I:Inv X pins σ H s) (hN:X.N.Nodup) (hi:X.N[i]? =some x) (hk:X.env.scope.names.lookup x=some .local)
  (h:∀s',Inv X pins (σ.set i none) H s'->Q () s'):wpAny M A (do bindName X.env x .none;unbindBehindTheSuite X.env x pos) Q E s:=by
 have hil:i<σ.length:=by rw[I.len];exact (List.getElem?_eq_some_iff.mp hi).1
 refine wpAny_bind (wpAny_bindName (jV1 (v:= .non) I hN hi (.inl hk) rfl (fun s1 I1=> ?_) (.inr hk)))
 unfold unbindBehindTheSuite
 refine wpAny_onRaise (qJz (v:= .non) I1 hN hi hk (List.getElem?_set_self hil) fun s2 I2=>h s2 ?_)
 rw[List.set_set] at I2
 exact I2
theorem SRel.unset {K:PySem.W.Frag} {τ:St3} (h:SRel K H σ τ) (i:Nat):SRel K H (σ.set i none) (τ.set i none):=by
 refine⟨by simp[h.1],fun j u q=> ?_⟩
 by_cases hj:i=j
 ·subst hj
  by_cases hl:i<τ.length
  ·rw[List.getElem?_set_self hl] at q;cases q
  ·rw[List.getElem?_eq_none (by simpa using Nat.not_lt.mp hl)] at q;cases q
 ·rw[List.getElem?_set_ne hj] at q ⊢
  exact h.2 j u q
theorem Lies.new (I:Inv X pins σ H s) (l:Lies X.prog X.w X.stack H s a C B a0 H' s'):s.heap.get? a=none:=by
 cases e:s.heap.get? a with
 | none=>rfl
 | some o=>
  exfalso
  by_cases f:a∈frs X.stack
  ·obtain⟨_,o',ho',hd⟩:=I.stack.mem f
   rw[e] at ho';cases ho'
   obtain⟨sl,e2⟩:=l.slot a o e f
   obtain⟨oe,vs,T,oT,ts,he,hc,hdd,_⟩:=l.fly.2.2.2
   rw[e2] at he;cases he
   exact hd vs hdd
  ·obtain⟨o',e2⟩:=l.there a o e f
   rw[l.fly.2.1] at e2;cases e2
theorem Lies.again {E:Value->Shared->Prop} {A:Around} (I:Inv X pins σ H s) (l:Lies X.prog X.w X.stack H s a C B a0 H' s') {Q:Unit->Shared->Prop} (k:∀h',Lies X.prog X.w X.stack H s a C B a0 H' {s' with heap:=h'}->Q () {s' with heap:=h'}):wpAny (model X.prog X.w) A (setFlight (.ref a) none) Q E s':=by
 refine lands_againW l.fly fun h2 fl up=>k h2 ⟨l.os,l.bare,fl,l.hok,l.keep,l.there,fun b o h f=> ?_,l.free,l.tups,l.frzs,l.tbls⟩
 obtain⟨sl,e⟩:=l.slot b o h f
 obtain⟨_,o',ho',hd'⟩:=I.stack.mem f
 rw[h] at ho'
 cases ho'
 obtain⟨sl2,e2⟩:=up b _ e hd'
 exact⟨sl2,e2⟩
theorem qK4 (I:Inv X pins σ H s) (l:Lies X.prog X.w X.stack H s a C B a0 H' s'):∃ob,ob.cls= .ref C/\Inv X pins σ (upd H' a (.frz ob (.ext fun h=>h.get? a=some ob))) s':=by
 obtain⟨ob,hob,hcl⟩:=l.fly.there
 have na:=l.na
 have new:=Lies.new I l
 have u:=l.un
 have hok:=l.hok.kept fun b u e=>l.fly.1 b u e
 refine⟨ob,hcl,I.call' (ch:=[]) l.os ⟨u.keep,u.slot,fun b o h n x=> ?_,u.there,fun b xs h=> ?_,fun b o w h=> ?_,fun b ps h=> ?_⟩ (fun b o e=> ?_) l.bare fun b z=>absurd z List.not_mem_nil⟩
 ·rw[jJz (fun z=>by rw[z,new] at h;cases h)];exact u.free b o h n x
 ·rw[jJz (fun z=>by have:=u.tups b xs h;rw[z,na] at this;cases this)];exact u.tups b xs h
 ·rw[jJz (fun z=>by have:=u.frzs b o w h;rw[z,na] at this;cases this)];exact u.frzs b o w h
 ·obtain⟨m,e⟩:=u.tbls b ps h
  exact⟨m,by rw[jJz (fun z=>by rw[z,na] at e;cases e)];exact e⟩
 ·by_cases hb:b=a
  ·subst hb
   rw[jJ8] at e;cases e
   exact⟨hob,hob,⟨ob,hob⟩,fun h1 h2 p k=>k ob p⟩
  ·rw[jJz hb] at e
   refine (hok b o e).stay (fun c w' _ q=>q) (fun c q=> ?_) fun c xs q=> ?_
   ·rw[jJz (fun z=>by rw[z,na] at q;cases q)];exact q
   ·rw[jJz (fun z=>by rw[z,na] at q;cases q)];exact q
end
structure ExSub (K:PySem.W.Frag) (mg:Str->Option Value) (cn c:Str) (b:Bool):Prop where
 ex:∃C D,CN K cn C/\mg c=some (.ref D)/\exmOne K (.ref C) (.ref D)=some b
section
variable {X:Cx}
noncomputable def tTry (i:Nat) (cs:List Str) (tb:TSx) (th:TS3):TS3:=fun D τ G=>tb D (fun cn τ' G'=>cn∈cs/\∀a,G' a=none->th {nx:=fun τ2 G2=>D.nx (τ2.set i none) G2,rt:=fun _ _=>False} (τ'.set i (some (.ref a))) (gup G' a (.exc cn))) τ G
theorem s_try {body:List Stmt} {b0:Stmt} {bs:List Stmt} {c n:Str} {i:Nat} {cs:List Str} {tb:TSx} {th:TS3} {np hpos pos:Pos} (hn:Calm X) (hN:X.N.Nodup) (hb:PSsx X body tb) (hh:∀a,PSs3 (hX X a) (b0::bs) th) (hcs:∀cn,cn∈cs->ExSub X.K X.mg cn c true)
  (hst:X.stack=X.env::X.outer:=by rfl) (hfr:X.env.frame=some X.env.locals:=by rfl) (hi:X.N[i]? =some n:=by rfl) (hk:X.env.scope.names.lookup n=some .local:=by rfl) (hg:Gl X c:=by rfl) (hdb:(c == ("__debug__":Str))=false:=by decide):
  PS3 X (.Try body [.ExceptHandler (some (.Name c np)) (some n) (b0::bs) hpos] [] [] pos) (tTry i cs tb th):=by
 intro pins s τ G H D I h
 refine wpAny_Try_except (wpAny_mono (hb pins s τ G H D _ I h) (fun f s1 q=> ?_) fun e s1 q=> ?_)
 ·cases f with
  | next=>exact wpAny_execs_nil q
  | ret v=>exact q
  | brk=>exact q
  | cont=>exact q
 obtain⟨a,C,cn,B,a0,τ',G1,H1,s2,G',H',rfl,e1,I1,l,e2,g,hc,hin,hR⟩:=q
 obtain⟨σ,I2,hs2,hg2⟩:=I1
 obtain⟨C',Dc,hC',hmg,hx⟩:=(hcs cn hin).ex
 cases hC'.one hc
 refine kY9 I2 l hst hfr fun h3 I3 l3=> ?_
 refine wpAny_handleBy_cons (codeAny_handlers_test (jVw (X:=hX X a) (Inv.mark I3 a) hg hmg ?_ hdb)) (by intro q;cases q)
 obtain⟨ob,hob,hcl⟩:=l3.fly.there
 have LT:Looks (model X.prog X.w) h3 (typeOf (.ref a)) (.ref C):=hcl▸(Looks.ld (part:=none) hob).andThen .now
 refine (exm_one (K:=X.K) I3.kIn LT hx).at ?_
 (refine codeAny_handlers_suite_as ?_)
 refine Lies.again (X:=X) I2 l3 fun h4 l4=> ?_
 obtain⟨ob4,hcl4,I4⟩:=qK4 I2 l4
 have ea:Ext H' (upd H' a (.frz ob4 (.ext fun h=>h.get? a=some ob4))):= .upd (.none l4.na)
 refine jV1 (v:= .ref a) I4 hN hi (.inl hk) rfl (fun s5 I5=> ?_) (.inr hk)
 have hs5:SRel X.K (upd H' a (.frz ob4 (.ext fun h=>h.get? a=some ob4))) (σ.set i (some (.ref a))) (τ'.set i (some (.ref a))):=((hs2.mono e2).mono ea).set i rfl
 have ga:G' a=none:=g.fresh l4.na
 have hg5:GRel X.K (upd H' a (.frz ob4 (.ext fun h=>h.get? a=some ob4))) (gup G' a (.exc cn)):=g.upd (.none l4.na) ⟨ob4,C,_,jJ8,hcl4,hc⟩
 have:=hh a pins s5 _ _ _ _ (Inv3.mark ⟨_,I5,hs5,hg5⟩ a) (hR a ga)
 refine wpAny_mono this (fun f s6 q=> ?_) fun e s6 q=>absurd q (hn e s6)
 cases f with
 | next=>
  obtain⟨τ6,G6,H6,e6,I6,q⟩:=q
  obtain⟨σ6,I6,hs6,hg6⟩:=Inv3.unmark I6 I2.ok
  exact kY5 I6 hN hi hk fun s7 I7=>⟨_,G6,H6,((e1.trans e2).trans ea).trans e6,⟨_,I7,hs6.unset i,hg6⟩,q⟩
 | ret v=>obtain⟨_,_,_,_,_,_,_,q⟩:=q;exact q.elim
 | brk=>obtain⟨_,_,_,_,_,q⟩:=q;exact q.elim
 | cont=>obtain⟨_,_,_,_,_,q⟩:=q;exact q.elim
end
structure ExK (K:PySem.W.Frag) (D:Addr):Prop where
 ga:findIn K (.ref D) "__getattribute__"=some (some (.builtin "BaseException.__getattribute__"))
 gt:findIn K (.ref D) "__getattr__"=some none
 cl:findIn K (.ref D) "__class__"=some (some (.builtin "object.__class__"))
 be:mroIn K D (.type "BaseException")=some true
 ob:mroIn K D (.type "object")=some true
 is:(clsIn K D).isSome=true
section
variable {prog:Program} {w:World} {A:Around} {E:Value->Shared->Prop} {s:Shared} {K:PySem.W.Frag} {x D:Addr} {ox:Obj}
open PySem.Builtin PySem.Builtin.ObjectAttr PySem.Builtin.Getset_descriptor in
theorem kXm {C:Addr} {tp:Value} {R:Result->Shared->Prop} (X:K.In s.heap) (L0:Looks (model prog w) s.heap (typeOf (.ref x)) (.ref C)) (hm:mroIn K C (.type "object")=some true) (h:R (.ok (.ret (.ref C))) s):codeAny (model prog w) A (.call (.builtin "getset_descriptor.__get__") ⟨[.builtin "object.__class__",.ref x,tp],[]⟩) R s:=by
 (obtain⟨hh,g,dr,t,os⟩:=s)
 (have L1:=looks_mroIn (M:=model prog w) X hm)
 (refine codeAny_call_builtin KF.slot_gs.plain KF.entry_gs (KF.slot_gs.check _ _ _ _ _ _ _ _ KF.type_class (KF.args_gs _ _ _) ?_))
 (unfold Builtin.«getset_descriptor.__get__» descrGet)
 rw[dga_obj]
 refine wpAny_bind (wpAny_pure ?_)
 (unfold descrGetter descrCheckInstance descrNameAndClass isInstance)
 simp only[KF.owner_class]
 repeat lk
 (refine⟨Code.quiet_builtin _ (by decide +kernel),codeAny_builtin KF.entry_class ?_⟩)
 (unfold Builtin.«object.__class__» shownTypeOf)
 repeat lk
 exact h
theorem kZx {Q:Option Value->Shared->Prop} (X:K.In s.heap) (L0:Looks (model prog w) s.heap (typeOf (.ref x)) (.ref D)) (e:ExK K D) (h:Q (some (.ref D)) {s with toks:=s.toks+1}):wpAny (model prog w) A (getAttr? (.ref x) "__class__") Q E s:=by
 obtain⟨hh,g,d,t,os⟩:=s
 have L1:=looks_findIn (M:=model prog w) X e.ga
 have L2:=looks_findIn (M:=model prog w) X e.cl
 have L3:=looks_findIn (M:=model prog w) X e.gt
 have L4:=looks_mroIn (M:=model prog w) X e.be
 (have hx2:(Value.builtin "BaseException.__getattribute__" == Value.builtin "object.__getattribute__")=false:=by decide +kernel)
 have hx1:(onTheHeap (Value.ref D)&&Value.builtin "BaseException.__getattribute__" == Value.builtin "object.__getattribute__")=false:=by rw[hx2];rfl
 have f3:=PySem.F.attrBase_ValueError.ga.bind (.ref x)
 (unfold getAttr? getAttrBy? getAttrBy)
 (refine wpAny_bind (wpAny_mkText (wpAny_bind (wpAny_attempt (wpAny_holding (wpAny_bind (L0.at (wpAny_bind (L1.at ?_)))))))))
 dsimp only
 rw[hx1]
 (simp only[Bool.false_eq_true,if_false])
 unfold getAttrByItsOwn
 have X':K.In hh:=X
 have L0:Looks (model prog w) hh (typeOf (Value.ref x)) (Value.ref D):=L0
 have L1:Looks (model prog w) hh (typeLookup (Value.ref D) (Str.ofString "__getattribute__")) (some (Value.builtin "BaseException.__getattribute__")):=L1
 have L2:Looks (model prog w) hh (typeLookup (Value.ref D) (Str.ofString "__class__")) (some (Value.builtin "object.__class__")):=L2
 have L3:Looks (model prog w) hh (typeLookup (Value.ref D) (Str.ofString "__getattr__")) none:=L3
 have L4:Looks (model prog w) hh (isSubtype (Value.ref D) (Value.type "BaseException")) true:=L4
 have key:∀(A:Around) (R:Result->Shared->Prop),R (.ok (.ret (.ref D))) ⟨hh,g,d,t+1,os⟩->codeAny (model prog w) A (.call (.builtin "BaseException.__getattribute__") ⟨[.ref x,.str (Str.ofString "__class__") t],[]⟩) R ⟨hh,g,d,t+1,os⟩:=by
  intro A R hR
  refine codeAny_call_builtin PySem.F.attrBase_ValueError.ga.plain PySem.F.entry_bexc_ga ?_
  (have hk:builtinKind "BaseException.__getattribute__"=some .slot:=by decide +kernel)
  (have hsplit:splitId "BaseException.__getattribute__"=some ("BaseException","__getattribute__"):=by decide +kernel)
  have ha:=PySem.F.args_bexc_ga (.ref x) (.str (Str.ofString "__class__") t)
  (simp only[checkBuiltinCall,hk,hsplit])
  refine wpAny_bind (wpAny_bind (L0.at (L4.at ?_)))
  rw[if_neg (by decide)]
  have hT5:(⟨hh,g,d,t+1,os⟩:Shared).TypeIs (.builtin "object.__class__") "getset_descriptor":=PySem.F.typeOf_object_class
  have f5:=PySem.F.typeOf_object_class
  have f6:=PySem.F.slot_gs_get.lookup
  have f7:=PySem.F.slot_gs_set.lookup
  repeat (any_goals (first | assumption | with_reducible refine L0.at ?_ | with_reducible refine L2.at ?_ | wp_step))
  refine kXm (s:=⟨hh,g,d,t+1,os⟩) X' L0 e.ob ?_
  (repeat (any_goals (first | assumption | wp_step)))
 unfold hookBefore
 rw[if_pos (show onTheHeap (Value.ref D)=true from rfl)]
 refine wpAny_bind (L3.at ?_)
 (refine wpAny_bind (wpAny_attempt (wpAny_holding ?_)))
 unfold callGetattribute
 rw[if_neg (by decide)]
 unfold boundAndCalled
 rw[f3]
 refine wpAny_bind (wpAny_pure ?_)
 refine (show wpAny _ _ (call (Value.builtin "BaseException.__getattribute__") [Value.ref x,Value.str (Str.ofString "__class__") t]) _ _ _ from wpAny_call (key _ _ ?_))
 (exact wpAny_pure (wpAny_pure h))
def ExAt (x D:Addr) (h:Heap):Prop:=∃ob,h.get? x=some ob/\ob.cls= .ref D
theorem ExAt.ty {M:Model} {h:Heap} (p:ExAt x D h):Looks M h (typeOf (.ref x)) (.ref D):=by
 obtain⟨ob,h1,h2⟩:=p
 exact h2▸(Looks.ld (part:=none) h1).andThen .now
theorem kVd (e:ExK K D):KitX K (.ref x) (.ref D) (ExAt x D) where
 ty:=fun _ _ _ p=>p.ty
 it:=fun _ _ X _=>by
  obtain⟨cd,hc⟩:=Option.isSome_iff_exists.mp e.is
  unfold clsIn at hc
  split at hc
  ·rename_i ho
   intro A' Q' E' s' k q
   unfold isType loadHead
   (exact wpAny_bind (wpAny_loadPart (k _ _ (X _ _ ho)) (wpAny_pure q)))
  ·cases hc
 ne:=fun h0 tp d0 is0 n0 l0 X htp=>by
  obtain⟨cd,hc⟩:=Option.isSome_iff_exists.mp e.is
  (refine Bool.eq_false_iff.mpr fun q=> ?_)
  have z:D=tp:=Value.ref.inj (beq_iff_eq.mp q)
  subst z
  unfold clsIn at hc
  split at hc
  ·rename_i ho
   (have z:=(X _ _ ho).symm.trans htp)
   cases z
  ·cases hc
 ca:=fun X p k=>kZx X p.ty e k
end
def ClsV (mg:Str->Option Value) (c:Str) (v:Value):Prop:=mg c=some v\/(mg c=none/\bootBuiltins c=some v)
structure IsX (K:PySem.W.Frag) (mg:Str->Option Value) (cs:List Str) (cn:Str) (b:Bool):Prop where
 ex:∃D vs,CN K cn D/\ExK K D/\Paired (fun c v=>ClsV mg c v) cs vs/\kitAny K (.ref D) vs=some b
theorem kXg {K:PySem.W.Frag} {t c:Value} {b:Bool} (h:kitAny K t [c]=some b):kitOne K t c=some b:=by
 unfold kitAny at h
 split at h
 ·rename_i e;cases h;exact e
 ·rename_i e;rw[e];exact h
 ·cases h
def clsT:Value->T
 | .ref C=> .ref C
 | .type n=> .ty n
 | _=> .non
section
variable {X:Cx}
def kV2 (rel:List (Str×Bool)) (tx:TE3):TE3:=fun τ G Q=>tx τ G fun x G1=>∃a cn b,x= .ref a/\G1 a=some (.exc cn)/\(cn,b)∈rel/\Q (.bl b) G1
theorem qUb {pins:List (Addr×Obj)} {τ:St3} {G:Gp} {H:Hp} {s:Shared} {a:Addr} {cn:Str} {D:Addr} (I:Inv3 X pins τ G H s) (h:G a=some (.exc cn)) (hD:CN X.K cn D):ExAt a D s.heap:=by
 obtain⟨σ,I0,_,hg⟩:=I
 obtain⟨ob,C,u,h1,h2,h3⟩:=(show ∃ob C u,H a=some (.frz ob u)/\ob.cls= .ref C/\PySem.W.nsIn X.K mainGlobals cn=some (some (.ref C)) from hg a _ h)
 cases CN.one hD h3
 exact⟨ob,(I0.hok a _ h1).1,h2⟩
theorem e_nm {c:Str} {v:Value} {pc:Pos} (hv:ClsV X.mg c v) (hc:∃C,v= .ref C\/∃n,v= .type n) (hg:Gl X c) (hn:c≠"__name__") (hdb:(c == ("__debug__":Str))=false):PE3 X (.Name c pc) (tC (clsT v)):=by
 intro pins s τ G H Q I h
 obtain⟨σ,I0,_,_⟩:=id I
 have e:EP3 X pins τ H Q v s:=by
  obtain⟨C,rfl | ⟨n,rfl⟩⟩:=hc
  ·exact⟨.ref C,G,H,.refl H,I,⟨.ref C,rfl,rfl⟩,h⟩
  ·exact⟨.ty n,G,H,.refl H,I,⟨.ty n,rfl,rfl⟩,h⟩
 rcases hv with hv | ⟨h1,h2⟩
 ·exact jVw I0 hg hv e hdb
 ·exact jQ1 I0 hg h1 h2 e hn hdb
theorem qUc {rel:List (Str×Bool)} {c:Str} {x:Expr} {tx:TE3} {p pc pos:Pos} (hrel:∀cn b,(cn,b)∈rel->IsX X.K X.mg [c] cn b) (hcl:∃v,ClsV X.mg c v/\∃C,v= .ref C\/∃n,v= .type n) (hx:PE3 X x tx) (hm:X.mg "isinstance"=none) (hg:Gl X "isinstance":=by rfl) (hgc:Gl X c:=by rfl) (hn:c≠"__name__":=by decide) (hdb:(c == ("__debug__":Str))=false:=by decide)
  (he:starEach [x,.Name c pc] X.env=(false,eval x X.env)::starEach [.Name c pc] X.env:=by rfl) (he2:starEach [.Name c pc] X.env=[(false,eval (.Name c pc) X.env)]:=by rfl) (hpl:(backTo pos (starEach [.Name c pc] X.env)).any (·.1)=false:=by rfl):
  PE3 X (.Call (.Name "isinstance" p) [x,.Name c pc] [] pos) (kV2 rel tx):=by
 obtain⟨v,hv,hvc⟩:=hcl
 intro pins s τ G H Q I h
 obtain⟨σ,I0,_,_⟩:=id I
 refine wpAny_Call_Name_kw (jQ1 I0 hg hm rfl ?_ (by decide) (by decide))
 refine PyProof.Rows.callWith_builtin1 ?_ he hpl
 rw[he,he2]
 refine Calls.spliced_cons (thn (hx pins s τ G H _ I h) fun u s1 w_=>w_.el fun y G1 H1 e1 I1 r1 q1=>Calls.spliced_cons (thn (e_nm hv hvc hgc hn hdb pins s1 τ G1 H1 (fun t G2=>t=clsT v/\G2=G1) I1 ⟨rfl,rfl⟩) fun u2 s2 w2=>Calls.spliced_nil ?_))
 obtain⟨t2,G2,H2,e2,I2,r2,rfl,rfl⟩:=w2
 obtain⟨a,cn,b,rfl,hG,hin,q⟩:=q1
 obtain⟨D,vs,hD,hk,hp,hka⟩:=(hrel cn b hin).ex
 obtain⟨v1,z1,z2⟩:=r1
 cases z1;cases z2
 have hu2:u2=v:=by
  obtain⟨v2,y1,y2⟩:=r2
  obtain⟨C,rfl | ⟨n,rfl⟩⟩:=hvc
  ·cases y1;cases y2;rfl
  ·cases y1;cases y2;rfl
 subst hu2
 cases hp with
 | @cons _ v' _ _ hc hr=>
 cases hr
 have:v'=u2:=by
  rcases hc with h1 | ⟨h1,h2⟩<;>rcases hv with h3 | ⟨h3,h4⟩
  ·rw[h1] at h3;exact Option.some.inj h3
  ·rw[h1] at h3;cases h3
  ·rw[h1] at h3;cases h3
  ·rw[h2] at h4;exact Option.some.inj h4
 subst this
 obtain⟨σ2,J2,_,_⟩:=id I2
 exact kia_one (kVd hk) J2.kIn (qUb I2 hG hD) (kXg hka) (by intro q;cases q) fun tk=>⟨.bl b,G2,H2,e1.trans e2,I2.tok tk,⟨.bl b,rfl,rfl⟩,q⟩
def Cl1 (v:Value):Prop:=∃C,v= .ref C\/∃n,v= .type n
theorem cl_eq {K:PySem.W.Frag} {H:Hp} {v u:Value} (hv:Cl1 v) (r:RU K H (clsT v) u):u=v:=by
 obtain⟨w,y1,y2⟩:=r
 obtain⟨C,rfl | ⟨n,rfl⟩⟩:=hv
 ·cases y1;cases y2;rfl
 ·cases y1;cases y2;rfl
theorem qQp {mg:Str->Option Value} {c:Str} {v u:Value} (hc:ClsV mg c v) (hv:ClsV mg c u):v=u:=by
 rcases hc with h1 | ⟨h1,h2⟩<;>rcases hv with h3 | ⟨h3,h4⟩
 ·rw[h1] at h3;exact Option.some.inj h3
 ·rw[h1] at h3;cases h3
 ·rw[h1] at h3;cases h3
 ·rw[h2] at h4;exact Option.some.inj h4
inductive NmL (X:Cx):List Str->List Expr->Prop
 | nil:NmL X [] []
 | cons {c:Str} {pc:Pos} {cs:List Str} {es:List Expr} (hv:∃v,ClsV X.mg c v/\Cl1 v) (h:NmL X cs es) (hg:Gl X c:=by rfl) (hn:c≠"__name__":=by decide) (hdb:(c == ("__debug__":Str))=false:=by decide) (he:starEach (.Name c pc::es) X.env=(false,eval (.Name c pc) X.env)::starEach es X.env:=by rfl):NmL X (c::cs) (.Name c pc::es)
theorem nml_rd {cs:List Str} {es:List Expr} (h:NmL X cs es):∃vs,Paired (fun c v=>ClsV X.mg c v) cs vs/\(∀v,v∈vs->Cl1 v)/\PA3 X es (fun _ G Q=>Q (vs.map clsT) G):=by
 induction h with
 | nil=>exact⟨[],.nil,fun v h=>absurd h List.not_mem_nil,jJg⟩
 | cons hv h hg hn hdb he ih=>
  obtain⟨v,h1,h2⟩:=hv
  obtain⟨vs,i1,i2,i3⟩:=ih
  refine⟨v::vs,.cons h1 i1,fun u hu=> ?_,?_⟩
  ·rcases (List.mem_cons.mp hu) with rfl | hu
   ·exact h2
   ·exact i2 u hu
  ·exact jJa (e_nm h1 h2 hg hn hdb) i3 he
theorem kUt {K:PySem.W.Frag} {H:Hp}:∀ {vs us:List Value} {ws:List V},(∀v,v∈vs->Cl1 v)->Reps K H (vs.map clsT) ws->Vals ws us->us=vs
 | [],_,_,_,r,q=>by cases (show _=[] from r);cases q;rfl
 | v::vs,us,ws,h,r,q=>by
  obtain⟨w,ws',e,r1,r2⟩:=(show ∃w ws',ws=w::ws'/\Rep K H (clsT v) w/\Reps K H (vs.map clsT) ws' from r)
  subst e
  cases q with
  | cons q1 q2=>rw[cl_eq (h v (List.mem_cons_self ..)) ⟨w,r1,q1⟩,kUt (fun u hu=>h u (List.mem_cons_of_mem _ hu)) r2 q2]
theorem kJb {α β:Type} {F:α->β->Prop} (hF:∀a b b',F a b->F a b'->b=b'):∀ {l:List α} {m n:List β},Paired F l m->Paired F l n->m=n
 | _,_,_,.nil,.nil=>rfl
 | _,_,_,.cons a b,.cons c d=>by rw[hF _ _ _ a c,kJb hF b d]
theorem e_isiT {rel:List (Str×Bool)} {cs:List Str} {es:List Expr} {x:Expr} {tx:TE3} {k} {p pc pos:Pos} (hrel:∀cn b,(cn,b)∈rel->IsX X.K X.mg cs cn b) (hcl:NmL X cs es) (hz:cs.length<=100) (hx:PE3 X x tx) (hm:X.mg "isinstance"=none) (hg:Gl X "isinstance":=by rfl)
  (he:starEach [x,.Tuple es k pc] X.env=(false,eval x X.env)::starEach [.Tuple es k pc] X.env:=by rfl) (he2:starEach [.Tuple es k pc] X.env=[(false,eval (.Tuple es k pc) X.env)]:=by rfl) (hpl:(backTo pos (starEach [.Tuple es k pc] X.env)).any (·.1)=false:=by rfl):
  PE3 X (.Call (.Name "isinstance" p) [x,.Tuple es k pc] [] pos) (kV2 rel tx):=by
 obtain⟨vs,hv,hvc,hpa⟩:=nml_rd hcl
 have hl:vs.length=cs.length:=(Paired.length hv).symm
 intro pins s τ G H Q I h
 obtain⟨σ,I0,_,_⟩:=id I
 refine wpAny_Call_Name_kw (jQ1 I0 hg hm rfl ?_ (by decide) (by decide))
 refine PyProof.Rows.callWith_builtin1 ?_ he hpl
 rw[he,he2]
 refine Calls.spliced_cons (thn (hx pins s τ G H _ I h) fun u s1 w_=>w_.el fun y G1 H1 e1 I1 r1 q1=>Calls.spliced_cons (thn (jUb (x1:=k) hpa pins s1 τ G1 H1 (fun t G2=>t= .tup (vs.map clsT)/\G2=G1) I1 ⟨by rw[List.length_map,hl,sizeLine_eq];omega,rfl,rfl⟩) fun u2 s2 w2=>Calls.spliced_nil ?_))
 obtain⟨t2,G2,H2,e2,I2,r2,rfl,rfl⟩:=w2
 obtain⟨a,cn,b,rfl,hG,hin,q⟩:=q1
 obtain⟨D,vs',hD,hk,hp,hka⟩:=(hrel cn b hin).ex
 obtain⟨v1,z1,z2⟩:=r1
 cases z1;cases z2
 cases kJb (F:=fun c v=>ClsV X.mg c v) (fun _ _ _ a b=>qQp a b) hp hv
 obtain⟨σ2,J2,_,_⟩:=id I2
 obtain⟨w2,y1,y2⟩:=r2
 obtain⟨tp,ws,rfl,hH,hr⟩:=(show ∃tp ws,w2= .ref tp/\H2 tp=some (.tup ws)/\Reps X.K H2 (vs.map clsT) ws from y1)
 cases y2
 obtain⟨_,its,hvals,⟨oc,od,odt,osl⟩,hget,hcls,n,hdat,hdic⟩:=(show ws.length<=sizeLine/\∃its:List Value,Vals ws its/\TupD s2.heap tp its.toArray from J2.hok tp _ hH)
 cases kUt hvc hr hvals
 dsimp only at hcls hdat hdic
 subst hcls hdat hdic
 exact kia_tup (kVd hk) J2.kIn (qUb I2 hG hD) hget hka (by intro q;cases q) fun tk=>⟨.bl b,G2,H2,e1.trans e2,I2.tok tk,⟨.bl b,rfl,rfl⟩,q⟩
theorem exc_mk {K:PySem.W.Frag} {h:Heap} {mg:Str->Option Value} {cn:Str} {C:Addr} (X:K.In h) (G:h.Ns mainGlobals mg) (a:nsIn K mainGlobals cn=some (some (.ref C))) (q:excIn K C vmro "ValueError.__new__"=true):ExC K mg cn:=⟨C,a,mg_of X G a,q⟩
theorem exsub_mk {K:PySem.W.Frag} {h:Heap} {mg:Str->Option Value} {cn c:Str} {C D:Addr} {v:Bool} (X:K.In h) (G:h.Ns mainGlobals mg) (a:nsIn K mainGlobals cn=some (some (.ref C))) (b:nsIn K mainGlobals c=some (some (.ref D))) (q:exmOne K (.ref C) (.ref D)=some v):ExSub K mg cn c v:=⟨C,D,a,mg_of X G b,q⟩
theorem clsv_own {K:PySem.W.Frag} {h:Heap} {mg:Str->Option Value} {c:Str} {D:Addr} (X:K.In h) (G:h.Ns mainGlobals mg) (b:nsIn K mainGlobals c=some (some (.ref D))):∃v,ClsV mg c v/\Cl1 v:=⟨.ref D,.inl (mg_of X G b),D,.inl rfl⟩
theorem clsv_blt {K:PySem.W.Frag} {h:Heap} {mg:Str->Option Value} {c:Str} {n:String} (X:K.In h) (G:h.Ns mainGlobals mg) (b:nsIn K mainGlobals c=some none) (e:bootBuiltins c=some (.type n)):∃v,ClsV mg c v/\Cl1 v:=⟨.type n,.inr ⟨mg_none_of X G b,e⟩,0,.inr ⟨n,rfl⟩⟩
end
end L3
namespace L3
open PySem
theorem rel1 {K:PySem.W.Frag} {mg:Str->Option Value} {cs:List Str} {cn:Str} {b:Bool} (h:IsX K mg cs cn b):∀cn' b',(cn',b')∈[(cn,b)]->IsX K mg cs cn' b':=fun cn' b' z=>by cases List.mem_singleton.mp z;exact h
theorem sub1 {K:PySem.W.Frag} {mg:Str->Option Value} {cn c:Str} (h:ExSub K mg cn c true):∀cn',cn'∈[cn]->ExSub K mg cn' c true:=fun cn' z=>by cases List.mem_singleton.mp z;exact h
end L3
namespace L3
open PySem PySem.Spec PyProof.Rows L2
def RNo:XK3:=fun _ _=>False
theorem qJx {X:Cx}:XR X.nox RNo where
 raise_:=by intros;rename_i h;exact h.elim
 pass:=by intros;rename_i h;exact h.elim
 own:=PassesOwn.never
def insI (a:Int):List Int->List Int
 | []=>[a]
 | b::r=>if a<=b then a::b::r else b::insI a r
def jVo:List Int->List Int
 | []=>[]
 | a::r=>insI a (jVo r)
theorem jZl (a:Int):∀l:List Int,(insI a l).Perm (a::l)
 | []=> .refl _
 | b::r=>by
  unfold insI
  split
  ·exact .refl _
  ·exact ((jZl a r).cons b).trans (.swap a b r)
theorem jXj:∀l:List Int,(jVo l).Perm l
 | []=> .nil
 | a::r=>(jZl a _).trans ((jXj r).cons a)
theorem kZh (a:Int):∀l:List Int,l.Pairwise (· <= ·)->(insI a l).Pairwise (· <= ·)
 | [],_=>List.pairwise_singleton ..
 | b::r,h=>by
  rw[List.pairwise_cons] at h
  unfold insI
  split
  ·rename_i c
   refine List.pairwise_cons.mpr ⟨fun x hx=> ?_,List.pairwise_cons.mpr h⟩
   rcases (List.mem_cons.mp hx) with rfl | hx
   ·exact c
   ·exact Int.le_trans c (h.1 x hx)
  ·rename_i c
   refine List.pairwise_cons.mpr ⟨fun x hx=> ?_,kZh a r h.2⟩
   rcases List.mem_cons.mp ((jZl a r).mem_iff.mp hx) with rfl | hx
   ·omega
   ·exact h.1 x hx
theorem kUz:∀l:List Int,(jVo l).Pairwise (· <= ·)
 | []=> .nil
 | a::r=>kZh a _ (kUz r)
theorem kJa:∀ {l m:List Int},l.Perm m->l.Pairwise (· <= ·)->m.Pairwise (· <= ·)->l=m
 | [],_,p,_,_=>(List.nil_perm.mp p).symm
 | a::l,[],p,_,_=>absurd p.symm (by simp)
 | a::l,b::m,p,h,h'=>by
  rw[List.pairwise_cons] at h h'
  have e:a=b:=by
   have h1:a<=b:=by
    rcases List.mem_cons.mp (p.mem_iff.mpr (List.mem_cons_self ..)) with e | e
    ·omega
    ·exact h.1 b e
   have h2:b<=a:=by
    rcases List.mem_cons.mp (p.mem_iff.mp (List.mem_cons_self ..)) with e | e
    ·omega
    ·exact h'.1 a e
   omega
  subst e
  rw[kJa (List.perm_cons a |>.mp p) h.2 h'.2]
theorem kK4 {vs:List Value} {ns:List Int} (h:IntsAre vs ns):Vals (ns.map V.int) vs:=by
 induction h with
 | nil=>exact .nil
 | @cons i t vs ns _ ih=>exact .cons ⟨t,rfl⟩ ih
theorem jUx:∀ {is:List Int} {us:List Value},Vals (is.map V.int) us->IntsAre us is
 | [],_,.nil=> .nil
 | i::is,_,.cons ⟨t,e⟩ r=>by rw[e];exact .cons _ _ (jUx r)
theorem kU2 {K:PySem.W.Frag} {H:Hp}:∀(is:List Int),Reps K H (is.map T.int) (is.map V.int)
 | []=>rfl
 | _::is=>⟨_,_,rfl,rfl,kU2 is⟩
section
variable {X:Cx}
noncomputable def kKs:List T->Gp->VK3->Prop:=fun xs G Q=>∃(x:T) (is:List Int),xs=[x]/\jUw G x=some (is.map T.int)/\is.length<64/\∀p,G p=none->Q (.ref p) (gup G p (.lst ((jVo is).map T.int)))
theorem qJk:Call3 X (.builtin "sorted") kKs:=by
 rintro pins s τ G H xs us Q ⟨σ,I,hs,hg⟩ ⟨as,ras,rvs⟩ ⟨x,is,ex,hx,hn,q⟩
 subst ex
 obtain⟨v,rfl,rv⟩:=jVh ras
 obtain⟨u,rfl,ru⟩:=rvs.one
 obtain⟨pa,vs,rfl,hq,r⟩:=jV7 hg rv hx
 cases ru
 cases jK3 r
 obtain⟨its,rvv,pl,hz⟩:=I.list hq
 have hl:its.length=is.length:=by rw[<-rvv.length,List.length_map]
 refine sorted_ints (vs:=its) pl.isList (jUx rvv) (by omega) fun out ns' hI hp ho=> ?_
 obtain⟨e,he⟩:=sortedAll_at s.heap its out
 have en:ns'=jVo is:=kJa (hp.trans (jXj is).symm) ho (kUz is)
 subst en
 have fr:=I.hok.fresh (Nat.le_succ s.heap.objs.size)
 have ln:(jVo is).length=is.length:=(jXj is).length_eq
 have I3:=I.laid (a:=s.heap.objs.size+1) (o:= .lst ((jVo is).map V.int)) (h':=sortedAll s.heap its out) (t':=s.toks) (fun b o z=>sortedAll_old z) (Nat.le_succ _) ⟨by rw[List.length_map,sizeLine_eq];omega,out.toList,e,kK4 hI,he⟩
 have ext:Ext H (upd H (s.heap.objs.size+1) (.lst ((jVo is).map V.int))):= .upd (.none fr)
 exact⟨.ref _,_,_,ext,⟨σ,I3,hs.mono ext,hg.lstNew (kU2 _) (.none fr)⟩,⟨.ref _,rfl,rfl⟩,q _ (hg.fresh fr)⟩
theorem Reps.eraseIdx {K:PySem.W.Frag} {H:Hp} {xs:List T} {vs:List V} (j:Nat) (h:Reps K H xs vs):Reps K H (xs.eraseIdx j) (vs.eraseIdx j):=by
 rw[List.eraseIdx_eq_take_drop_succ,List.eraseIdx_eq_take_drop_succ]
 exact (h.take _).append (h.drop _)
theorem kf_of:∀ps:List (Int×Tok),PySem.W.kf_ints (ps.map fun p=>Value.int p.1 p.2)=true
 | []=>rfl
 | _::r=>kf_of r
noncomputable def kYo:T->List T->Gp->VK3->Prop:=fun x as G Q=>∃(p:Addr) (is:List Int) (k:Int) (j:Nat),x= .ref p/\as=[.int k]/\G p=some (.lst (is.map T.int))/\is.idxOf? k=some j/\Q .non (gup G p (.lst ((is.eraseIdx j).map T.int)))
theorem qK2:Mt3 X "list.remove" kYo:=by
 rintro pins s τ G H x as v us Q ⟨σ,I,hs,hg⟩ ⟨a,ra,rv⟩ ⟨bs,rbs,rus⟩ ⟨p,is,k,j,ex,ea,hp,hj,q⟩
 subst ex;subst ea
 cases (show a= .ref p from ra);cases rv
 obtain⟨b,rfl,rb⟩:=jVh rbs
 cases (show b= .int k from rb)
 obtain⟨u,rfl,ru⟩:=rus.one
 obtain⟨t,rfl⟩:=ru
 obtain⟨vs,h1,h2⟩:=hg.lst hp
 cases jK3 h2
 obtain⟨hz,its,n,r,hl,e⟩:=I.lstM h1
 have hI:=jUx r
 obtain⟨ps,rfl,rfl⟩:=jUd r
 rw[List.idxOf?,List.findIdx?_eq_some_iff_getElem] at hj
 obtain⟨hjl,hit,hno⟩:=hj
 simp only[List.length_map] at hjl hl hz
 have szl:(ps.map fun p=>Value.int p.1 p.2).toArray.size=ps.length:=by simp
 have kf:=kf_of ps
 refine call_meets F.slot_list_remove ⟨_,e,rfl⟩ F.entry_list_remove (F.args_list_remove_2 _ _) (MeetsSeq.list_remove p _ n (.int k t) (isInt k) (fun y hy=>PySem.W.kf_eq kf y (by simpa using hy)) j (by rw[szl];exact hjl) ?_ ?_ (by rw[szl];exact hz)) ⟨e,?_⟩
 ·simpa[isInt] using hit
 ·intro m hm hmj
  have:=hno m hmj
  simpa[isInt] using this
 ·have e2:Ext H (upd H p (.lst (((ps.map (·.1)).map V.int).eraseIdx j))):= .upd (.lst h1)
  refine⟨.non,_,_,e2,⟨σ,I.lset (its':=(ps.map fun p=>Value.int p.1 p.2).eraseIdx j) h1 e ?_ ?_ ?_,hs.mono e2,hg.lstNew (xs:=((ps.map (·.1)).eraseIdx j).map T.int) ?_ (.lst h1)⟩,⟨.non,rfl,rfl⟩,q⟩
  ·apply Array.toList_inj.mp
   (simp[Array.toList_eraseIdxIfInBounds])
  ·have:=r
   rw[List.eraseIdx_eq_take_drop_succ,List.eraseIdx_eq_take_drop_succ]
   exact (r.take _).append (r.drop _)
  ·have:=List.length_eraseIdx_le ((ps.map (·.1)).map V.int) j
   simp only[List.length_map] at this
   omega
  ·have e3:((ps.map (·.1)).eraseIdx j).map T.int=((ps.map (·.1)).map T.int).eraseIdx j:=by rw[List.eraseIdx_eq_take_drop_succ,List.eraseIdx_eq_take_drop_succ,List.map_append,List.map_take,List.map_drop]
   rw[e3];exact Reps.eraseIdx j h2
end
section
variable {X:Cx}
noncomputable def kX3 (ta tb tc td te tf:TE3):TE3:=fun τ G Q=>∀p,G p=none->ta τ (gup G p (.dck [])) fun x1 G1=>tb τ G1 fun y1 G2=>tc τ G2 fun x2 G3=>td τ G3 fun y2 G4=>te τ G4 fun x3 G5=>tf τ G5 fun y3 G6=>
 ∃k1 k2 k3,jXa x1=some k1/\jXa x2=some k2/\jXa x3=some k3/\G6 p=some (.dck [])/\Q (.ref p) (gup G6 p (.dck (putT (putT (putT [] k1 y1) k2 y2) k3 y3)))
theorem qVv {pos:Pos} {a b c d e f:Expr} {ta tb tc td te tf:TE3} (ha:PE3 X a ta) (hb:PE3 X b tb) (hc:PE3 X c tc) (hd:PE3 X d td) (he:PE3 X e te) (hf:PE3 X f tf):PE3 X (.Dict [some a,some c,some e] [b,d,f] pos) (kX3 ta tb tc td te tf):=by
 rintro pins s τ G H Q ⟨σ,I,hs,hg⟩ h
 have hn:=I.hok.fresh (Nat.le_refl s.heap.objs.size)
 have I1:=I.laid (a:=s.heap.objs.size) (o:= .dK []) (h':=s.heap.push {cls:= .type "dict",data:= .dict #[]}) (t':=s.toks) (fun _ _ q=>Heap.get?_push_of_some _ q) (Nat.le_refl _) (kVt s.heap I.big)
 have I3:Inv3 X pins τ (gup G s.heap.objs.size (.dck [])) (upd H s.heap.objs.size (.dK [])) {s with heap:=s.heap.push {cls:= .type "dict",data:= .dict #[]},toks:=s.toks}:=
  ⟨σ,I1,hs.mono (.upd (.none hn)),hg.upd (.none hn) (go:= .dck []) ⟨[],jJ8,.nil⟩⟩
 refine wpAny_Dict_walk (knd:=jJ6 X.prog X.w) rfl rfl (by simp) (by simp) (pairTrees_cons_walk (thn (ha pins _ τ _ _ _ I3 (h _ (hg.fresh hn))) fun u1 s1 w_=>w_.el fun x1 G1 H1 e1 J1 ru1 q1=>thn (hb pins s1 τ G1 H1 _ J1 q1) fun v1 s2 w_=>w_.el fun y1 G2 H2 e2 J2 rv1 q2=>
  pairTrees_cons_walk (thn (hc pins s2 τ G2 H2 _ J2 q2) fun u2 s3 w_=>w_.el fun x2 G3 H3 e3 J3 ru2 q3=>thn (hd pins s3 τ G3 H3 _ J3 q3) fun v2 s4 w_=>w_.el fun y2 G4 H4 e4 J4 rv2 q4=>
  pairTrees_cons_walk (thn (he pins s4 τ G4 H4 _ J4 q4) fun u3 s5 w_=>w_.el fun x3 G5 H5 e5 J5 ru3 q5=>thn (hf pins s5 τ G5 H5 _ J5 q5) fun v3 s6 w_=>w_.el fun y3 G6 H6 e6 i_ rv3 q6=>i_.el fun σ6 J6 hs6 hg6=>pairTrees_nil_walk ?_))))
 obtain⟨k1,k2,k3,hk1,hk2,hk3,hd6,q⟩:=q6
 obtain⟨ws,hH6,pk⟩:=(show ∃ws,H6 s.heap.objs.size=some (.dK ws)/\PKV X.K H6 [] ws from hg6 _ _ hd6)
 cases pk
 obtain⟨a1,ra1,rw1⟩:=ru1.mono ((((e2.trans e3).trans e4).trans e5).trans e6)
 obtain⟨c1,rc1,rx1⟩:=rv1.mono (((e3.trans e4).trans e5).trans e6)
 obtain⟨a2,ra2,rw2⟩:=ru2.mono ((e4.trans e5).trans e6)
 obtain⟨c2,rc2,rx2⟩:=rv2.mono (e5.trans e6)
 obtain⟨a3,ra3,rw3⟩:=ru3.mono e6
 obtain⟨c3,rc3,rx3⟩:=rv3
 obtain rfl:=jUh hk1 ra1
 obtain rfl:=jUh hk2 ra2
 obtain rfl:=jUh hk3 ra3
 obtain⟨rs,cr,rk⟩:=kJj (P:=X.prog) (w:=X.w) (kvs:=[(k1,c1),(k2,c2),(k3,c3)]) (ws:=[(u1,v1),(u2,v2),(u3,v3)]) (.cons ⟨rw1,rx1⟩ (.cons ⟨rw2,rx2⟩ (.cons ⟨rw3,rx3⟩ .nil)))
 obtain⟨z,hdd,vs0,r0,dd⟩:=dk_of J6.hok hH6
 cases r0
 refine⟨rs,cr,dd,fun h' dd' hsb=> ?_⟩
 have hq:∃q,h'.get? s.heap.objs.size=some q:=let ⟨q,_,_,hq,_⟩:=dd';⟨q,hq⟩
 have ln:=jV8 [(k1,c1),(k2,c2),(k3,c3)] []
 have JJ:=kUj (t':=s6.toks+[(u1,v1),(u2,v2),(u3,v3)].length) J6 (by rw[hH6];exact True.intro) hsb hq (qUd (kvs:=kJd [] [(k1,c1),(k2,c2),(k3,c3)]) (by rw[sizeLine_eq];simp at ln;omega) hdd (rk.merge .nil) dd')
 have ext:Ext H6 (upd H6 s.heap.objs.size (.dK (kJd [] [(k1,c1),(k2,c2),(k3,c3)]))):= .upd (.dK hH6)
 have pk:PKV X.K H6 (putT (putT (putT [] k1 y1) k2 y2) k3 y3) (kJd [] [(k1,c1),(k2,c2),(k3,c3)]):=PKV.put (PKV.put (PKV.put (kvs:=[]) .nil k1 rc1) k2 rc2) k3 rc3
 exact⟨.ref s.heap.objs.size,_,_,((((((Ext.upd (.none hn)).trans e1).trans e2).trans e3).trans e4).trans e5).trans (e6.trans ext),⟨σ6,JJ,hs6.mono ext,hg6.upd (.dK hH6) (go:= .dck (putT (putT (putT [] k1 y1) k2 y2) k3 y3)) ⟨_,jJ8,pk.mono ext⟩⟩,⟨.ref _,rfl,rfl⟩,q⟩
end
section
variable {P:Program} {w:World} {d:Addr}
theorem kXb {K:Type} [DecidableEq K] (knd:HeapKind P w K) (a:Addr) (z:Value) (hd:(d == sysModules)=false):
  MeetsIn P w (Builtin.«dict.get» ⟨[.ref d,.ref a,z],[]⟩) (fun A R s=>knd.room A.in1/\∃k xs,knd.is s.heap k a/\s.heap.DictOfH knd d xs/\R (.ok (.ret (((atKey xs k).map (·.2)).getD z))) {s with toks:=s.toks+knd.draws k}):=
 .of_wp fun A R (s) ⟨hu,k,xs,hkey,hm,h⟩=>by
  unfold Builtin.«dict.get»; refine wpAny_bind ?_
  unfold Builtin.Dict.keyAndDefault;refine wpAny_bind (wpAny_notOrdered_dict hm.typeIs ?_)
  refine (show wpAny _ _ (pure (d,Value.ref a,some z)) _ _ s from wpAny_pure ?_)
  refine wpAny_bind (m:=dictGet d (.ref a)) (wpAny_dictGet_heap hu hkey hm ?_)
  cases e:(atKey xs k).map (·.2) with
  | some v=>rw[e] at h;exact wpAny_pure ⟨_,rfl,h⟩
  | none=>
   rw[e] at h
   refine wpAny_bind (m:=Builtin.Dict.missed d (.ref a)) ?_
   unfold Builtin.Dict.missed
   rw[if_neg (by rw[hd];exact (Bool.false_ne_true))]
   exact wpAny_pure (wpAny_pure ⟨_,rfl,h⟩)
end
section
variable {X:Cx}
def qUu:T->List T->Gp->VK3->Prop:=fun x as G Q=>∃p ys z o,x= .ref p/\as=[.tup ys,z]/\dAt G (.ref p) (.tup ys)=some o/\Q (o.getD z) G
theorem m_getZ (hu:X.A.units+20<cLine):Mt3 X "dict.get" qUu:=by
 rintro pins s τ G H x as v us Q ⟨σ,I,hs,hg⟩ ⟨a,ra,rv⟩ ⟨bs,rbs,rus⟩ ⟨p,ys,zz,o,ex,ea,hd,q⟩
 subst ex;subst ea
 cases (show a= .ref p from ra);cases rv
 obtain⟨b,bz,rfl,rb,rz⟩:=kKo rbs
 obtain⟨u1,uz,rfl,ru1,ruz⟩:=rus.two
 obtain⟨p',ov,ep,g,e1,e2⟩:=kUk hg ra rb hd
 cases ep
 obtain⟨q',vs,e,h3,h4⟩:=(show ∃q vs,b= .ref q/\H q=some (.tup vs)/\Reps X.K H ys vs from rb)
 subst e
 cases (show u1=Value.ref q' from ru1)
 rcases g with ⟨kvs,k,e,ey,l⟩ | ⟨kvs,k,b,e,ey,eb,l⟩
 ·cases k<;>cases ey
 ·cases ey
  obtain⟨z,hdd,xs,rel,dd⟩:=kZ8 I.hok e
  refine call_meetsIn PySem.F.slot_dict_get dd.typeIs PySem.F.entry_dict_get (PySem.F.args_dict_get_3 _ _ _) (kXb (jUk X.prog X.w) q' uz hdd) ⟨jKs hu,k,xs,kK1 I.hok eb,dd,?_⟩
  have ro:=rel.val k
  rw[<-l] at ro
  cases ov with
  | none=>
   cases o with
   | some t=>cases e1
   | none=>
    cases ea:atKey xs k with
    | some pp=>rw[ea] at ro;exact (show False from ro).elim
    | none=>exact⟨zz,G,H,.refl H,⟨σ,I.tok _,hs,hg⟩,⟨bz,rz,ruz⟩,q⟩
  | some wv=>
   cases o with
   | none=>cases e1
   | some t=>
    obtain⟨wv',e',rt⟩:=e2 t rfl
    cases e'
    cases ea:atKey xs k with
    | none=>rw[ea] at ro;exact (show False from ro).elim
    | some pp=>rw[ea] at ro;exact⟨t,G,H,.refl H,⟨σ,I.tok _,hs,hg⟩,⟨wv,rt,ro⟩,q⟩
end
theorem rt_init:Slot "reversed" "__init__" "object.__init__":=
 .of (n:="__init__") (owner:="object") (by rw[typeLookup_type,builtinLookup_eq_fast];kernel_rfl) (by decide +kernel) (by decide +kernel) (by decide +kernel)
  (by first | exact .inl (by decide +kernel) | exact .inr (by decide +kernel)) (by rw[isSubtype_type];kernel_rfl)
theorem rt_next:Slot "reversed" "__next__" "reversed.__next__":=
 .of (owner:="reversed") (n:="__next__") (by rw[typeLookup_type,builtinLookup_eq_fast];kernel_rfl) (by decide +kernel) (by decide +kernel) (by decide +kernel)
  (by first | exact .inl (by decide +kernel) | exact .inr (by decide +kernel)) (by rw[isSubtype_type];kernel_rfl)
theorem kYd:TypeCalled "reversed" "reversed.__new__" "object.__init__":=
 ⟨by decide +kernel,F.create_reversed,⟨_,_,F.mro_reversed⟩,F.made_reversed,F.plain_reversed_new,F.sub_reversed_self,rt_init⟩
theorem qKa:typeLookup (.type "tuple") "__reversed__"=pure none:=by rw[typeLookup_type,builtinLookup_eq_fast];kernel_rfl
def jQ2 (l:Addr) (i:Int):Obj:={cls:= .type "reversed",data:= .fields #[.ref l,rawInt i]}
def IsTRev (h:Heap) (a l:Addr) (i:Int):Prop:=∃o,h.get? a=some o/\o.cls= .type "reversed"/\o.data= .fields #[.ref l,rawInt i]
section
variable {prog:Program} {w:World} {A:Around} {E:Value->Shared->Prop} {s:Shared}
theorem rt_new {l:Addr} {items:Array Value} {Q₁:Value->Shared->Prop} (hl:IsTup s.heap l items) (hz:items.size<=sizeLine)
  (h:∀t,Q₁ (.ref s.heap.objs.size) {s with heap:=s.heap.push (jQ2 l ((items.size:Int)-1)),toks:=t}):codeAny (model prog w) A (.call (.builtin "reversed.__new__") ⟨[.type "reversed",.ref l],[]⟩) (wants Q₁ E) s:=by
 refine codeAny_of_tree ?_
 refine (show wpAny _ A.in1 (do checkBuiltinCall "reversed.__new__" ⟨[.type "reversed",.ref l],[]⟩;again (.builtin "reversed.__new__" ⟨[.type "reversed",.ref l],[]⟩)) _ _ s from ?_)
 (refine wpAny_bind (wpAny_of_eq (F.newCall_reversed_1 _) (wpAny_pure ⟨plainId_quiet F.plain_reversed_new _,codeAny_builtin F.entry_reversed_new ?_⟩)))
 (rw[Around.under_plainId F.plain_reversed_new _])
 (unfold Builtin.«reversed.__new__»)
 (refine wpAny_bind (wpAny_of_eq (newClass_reversed _) ?_))
 try dsimp only
 (refine wpAny_bind (wpAny_of_eq (a:=()) (by first | rfl | kernel_rfl) ?_))
 (refine wpAny_bind (wpAny_of_eq (a:=()) (by first | rfl | kernel_rfl) ?_))
 try dsimp only
 have ty:s.TypeIs (.ref l) "tuple":=hl.typeIs
 refine wpAny_bind (wpAny_specialOf ty qKa ?_)
 try dsimp only
 refine wpAny_bind (show wpAny _ _ (isInstance (Value.ref l) (.type "dict") >>= _) _ _ s from wpAny_bind (wpAny_isInstance ty (b:=false) (by rw[isSubtype_type];kernel_rfl) ?_))
 refine (show wpAny _ _ (specialOf (Value.ref l) "__getitem__" >>= _) _ _ s from wpAny_bind (wpAny_specialOf ty slot_tuple_getitem.lookup ?_))
 refine (show wpAny _ _ (if List.contains _ _=true then pure true else _) _ _ s from ?_)
 rw[if_pos (by decide +kernel)]
 refine wpAny_pure ?_
 rw[if_neg (by decide)]
 refine wpAny_bind (len_tuple hl (by have:=sizeLine_eq;omega) ?_)
 refine wpAny_bind (wpAny_of_eq (a:=some (items.size:Int)) (by first | rfl | kernel_rfl) ?_)
 try dsimp only
 unfold Builtin.SmallTypes.newRecord
 exact wpAny_bind (wpAny_newObj_type (wpAny_pure (h _)))
theorem jUj {l:Addr} {items:Array Value} {Q:Value->Shared->Prop} (hl:IsTup s.heap l items) (hz:items.size<=sizeLine)
  (h:∀t,Q (.ref s.heap.objs.size) {s with heap:=s.heap.push (jQ2 l ((items.size:Int)-1)),toks:=t}):wpAny (model prog w) A (call (.type "reversed") [.ref l]) Q E s:=by
 refine callType_codes (Q₁:=fun obj z=>∃t,obj= .ref s.heap.objs.size/\z={s with heap:=s.heap.push (jQ2 l ((items.size:Int)-1)),toks:=t}) kYd (F.typeCall_reversed_1 _) F.entry_object_init (rt_new hl hz fun t=>⟨t,rfl,rfl⟩) ?_
 rintro obj z ⟨t,rfl,rfl⟩
 have ty:({s with heap:=s.heap.push (jQ2 l ((items.size:Int)-1)),toks:=t}:Shared).TypeIs (.ref s.heap.objs.size) "reversed":=⟨_,Heap.get?_push_size _ rfl,rfl⟩
 exact⟨ty,F.args_object_init_2 _ _,object_init_meets rt_init.lookup F.made_reversed (by decide) prog w A.in1 _ _ ⟨ty,rfl,h t⟩⟩
theorem IsTRev.typeIs {a l:Addr} {i:Int} (x:IsTRev s.heap a l i):s.TypeIs (.ref a) "reversed":=let ⟨o,ho,hc,_⟩:=x;⟨o,ho,hc⟩
theorem IsTRev.at {h h':Heap} {a l:Addr} {i:Int} (x:IsTRev h a l i) (e:∀o,h.get? a=some o->h'.get? a=some o):IsTRev h' a l i:=let ⟨o,ho,r⟩:=x;⟨o,e _ ho,r⟩
theorem kJt:Manifest.owners.lookup (String.ofList ['d','e','s','r','e','v','e','r'].reverse)=some Manifest.sig_reversed:=by kernel_rfl
theorem kYe (a:Value):argsOk "reversed.__next__" ⟨[a],[]⟩:=by
 unfold argsOk;rw[signature?_of (id:="reversed.__next__") (n:=['_','_','t','x','e','n','_','_']) (o:=['d','e','s','r','e','v','e','r']) (by kernel_rfl) kJt];kernel_rfl
theorem kU1:entryFor table "reversed.__next__"=some Builtin.«reversed.__next__» :=entryFor_of_tree (by kernel_rfl)
theorem jXx {it l:Addr} {i:Nat} {items:Array Value} {x:Value} {Q:Option Value->Shared->Prop} (hit:IsTRev s.heap it l (i:Int)) (hl:IsTup s.heap l items) (hz:items.size<=sizeLine) (hx:items[i]? =some x)
  (hQ:∀h' t,IsTRev h' it l ((i:Int)-1)->Heap.SameBut it s.heap h'->Q (some x) {s with heap:=h',toks:=t}):wpAny (model prog w) A (pyNext (.ref it)) Q E s:=by
 (obtain⟨o,ho,hc,hd⟩:=id hit)
 unfold pyNext
 refine wpAny_bind (wpAny_attempt (wpAny_callSpecial?_slot (name:=Str.ofString "__next__") hit.typeIs rt_next (wpAny_call_entry rt_next hit.typeIs kU1 ?_ (kYe _))))
 unfold Builtin.«reversed.__next__»
 (refine wpAny_bind (wpAny_of_eq (a:=(Value.ref it,[])) rfl ?_))
 try dsimp only
 (refine wpAny_bind (wpAny_field ho hd (x:= .ref l) rfl ?_))
 (refine wpAny_bind (wpAny_field ho hd (x:=rawInt (i:Int)) rfl ?_))
 refine (show wpAny _ _ (if (i:Int)<0 then _ else _) _ _ s from ?_)
 rw[if_neg (by omega)]
 have ty:s.TypeIs (.ref l) "tuple":=hl.typeIs
 refine wpAny_bind (wpAny_specialOf ty slot_tuple_getitem.lookup ?_)
 rw[if_neg (by decide)]
 have hi:i<items.size:=(Array.getElem?_eq_some_iff.mp hx).1
 have hsl:=sizeLine_eq
 refine wpAny_bind (wpAny_mkInt (wpAny_bind (wpAny_attempt (getItem_tuple (s:={s with toks:=s.toks+1}) hl (by omega) (by omega) (j:=i) (by unfold seqIndex?; simp;omega) hx ?_))))
 try dsimp only
 (refine wpAny_bind (wpAny_field ho hd (x:=rawInt (i:Int)) rfl ?_))
 refine (show wpAny _ _ (setField (.ref it) 1 (rawInt ((i:Int)-1)) >>= _) _ _ _ from wpAny_bind (wpAny_setField ho hd (by simp) ?_))
 refine wpAny_pure ⟨x,rfl,wpAny_pure (hQ _ _ ?_ (Heap.SameBut.update ..))⟩
 exact⟨_,Heap.get?_update_self _ ho (Obj.isFreed_of_fields (Obj.data_mapFields hd _)),(Obj.cls_mapFields ..).trans hc,by rw[Obj.data_mapFields hd];simp⟩
theorem jY0 {it l:Addr} {Q:Option Value->Shared->Prop} (hh:A.handled=none) (hit:IsTRev s.heap it l (-1)) (hQ:∀h',Heap.ExtBut it s.heap h'->Q none {s with heap:=h'}):wpAny (model prog w) A (pyNext (.ref it)) Q E s:=by
 (obtain⟨o,ho,hc,hd⟩:=id hit)
 unfold pyNext
 refine wpAny_bind (wpAny_attempt (wpAny_callSpecial?_slot (name:=Str.ofString "__next__") hit.typeIs rt_next (wpAny_call_entry rt_next hit.typeIs kU1 ?_ (kYe _))))
 unfold Builtin.«reversed.__next__»
 (refine wpAny_bind (wpAny_of_eq (a:=(Value.ref it,[])) rfl ?_))
 try dsimp only
 (refine wpAny_bind (wpAny_field ho hd (x:= .ref l) rfl ?_))
 (refine wpAny_bind (wpAny_field ho hd (x:=rawInt (-1)) rfl ?_))
 refine (show wpAny _ _ (if (-1:Int)<0 then _ else _) _ _ s from ?_)
 rw[if_pos (by decide)]
 refine wpAny_bind (wpAny_rule ?_)
 refine wpAny_bind (show wpAny _ _ (setField (.ref it) 1 (rawInt (-1)) >>= _) _ _ s from wpAny_bind (wpAny_setField ho hd (by simp) ?_))
 have ho':=Heap.get?_update_self (h:=s.heap) (Obj.mapFields (·.setIfInBounds 1 (rawInt (-1)))) ho (Obj.isFreed_of_fields (Obj.data_mapFields hd _))
 refine (show wpAny _ _ (setField (.ref it) 0 .none) _ _ _ from wpAny_setField ho' (Obj.data_mapFields hd _) (by simp) ?_)
 refine (show wpAny _ _ (Builtin.SmallTypes.stopIteration >>= _) _ _ _ from wpAny_bind ?_)
 refine (show wpAny _ _ (newExc (.type "StopIteration") [] >>= _) _ _ _ from wpAny_bind ?_)
 simp only[newExc,newTuple]
 (refine wpAny_bind (wpAny_newObj_type ?_ (by size_fits)))
 refine wpAny_bind (m:=firstArgMember _ _) (wpAny_of_eq (a:=Value.none) (by first | rfl | (simp only[firstArgMember];rfl)) (wpAny_newObj_type ?_ (by size_fits)))
 simp only[raiseNew]
 (refine wpAny_bind (wpAny_handled ?_))
 (rw[show A.in1.handled=none from hh])
 (refine wpAny_bind (wpAny_pure (wpAny_throw ?_)))
 refine wpAny_bind (wpAny_isInstance (T:="StopIteration") (b:=true) ⟨_,Heap.get?_push_size _ rfl,rfl⟩ isSubtype_stop (wpAny_pure (hQ _ fun b o hb e=> ?_)))
 exact Heap.get?_push_of_some _ (Heap.get?_push_of_some _ ((Heap.get?_update_ne _ _ _ _ hb).trans ((Heap.get?_update_ne _ _ _ _ hb).trans e)))
theorem kYb:Slot "reversed" "__iter__" "reversed.__iter__":=
 .of (owner:="reversed") (n:="__iter__") (by rw[typeLookup_type,builtinLookup_eq_fast];kernel_rfl) (by decide +kernel) (by decide +kernel) (by decide +kernel)
  (by first | exact .inl (by decide +kernel) | exact .inr (by decide +kernel)) (by rw[isSubtype_type];kernel_rfl)
theorem qKb (a:Value):argsOk "reversed.__iter__" ⟨[a],[]⟩:=by
 unfold argsOk;rw[signature?_of (id:="reversed.__iter__") (n:=['_','_','r','e','t','i','_','_']) (o:=['d','e','s','r','e','v','e','r']) (by kernel_rfl) kJt];kernel_rfl
theorem kYc:entryFor table "reversed.__iter__"=some Builtin.«dict_keyiterator.__iter__» :=
 entryFor_alias (id':="dict_keyiterator.__iter__") (by kernel_rfl) (by first | rfl | decide +kernel | (unfold String.splitOn;simp +decide [String.splitOnAux])) (by decide +kernel) (by kernel_rfl)
theorem kJs {it l:Addr} {i:Int} {Q:Value->Shared->Prop} (hit:IsTRev s.heap it l i) (h:Q (.ref it) s):wpAny (model prog w) A (pyIter (.ref it)) Q E s:=by
 refine wpAny_pyIter_slot hit.typeIs kYb (wpAny_call_entry kYb hit.typeIs kYc ?_ (qKb _))
 exact (show wpAny _ _ (ret (.ref it)) _ _ s from wpAny_pure ⟨_,rfl,"reversed",_,hit.typeIs,rt_next.lookup,h⟩)
end
noncomputable def Itw (K:PySem.W.Frag) (a:Addr) (n:Nat):It:=
 ⟨fun i H=>i<n/\∃xs x,SqT K H a xs/\xs.length=n/\xs[n-1-i]? =some x,fun i H x H'=>H'=H/\∀xs,SqT K H a xs->xs[n-1-i]? =some x,fun i _=>n<=i⟩
theorem kXy {P:Program} {w:World} {K:PySem.W.Frag} {tg:Expr} (a it:Addr) (n:Nat):Turn P w K tg (Itw K a n) [it] it (fun i h=>i<=n/\IsTRev h it a ((n:Int)-1-(i:Nat))) where
 mem:=List.mem_singleton_self _
 obj:=fun i h ⟨_,o,e,c,d⟩ b hb=>by
  obtain rfl:=List.mem_singleton.mp hb
  exact⟨o,e,fun v z=>by rw[d] at z;cases z⟩
 keep:=fun i h h' ⟨l,st⟩ k=>⟨l,st.at fun o e=>k it (List.mem_singleton_self _) o e⟩
 item:=by
  rintro X hP hw hK hc i pins s σ H E I hf ⟨hl,st⟩ ⟨hi,xs,x,hq,hn,hx⟩
  subst hP hw hK
  obtain⟨its,rv,p,hz⟩:=I.tuple hq
  obtain⟨u,hu,ru⟩:=rv.get hx
  obtain⟨f0,f1,_,f3,f4,f5⟩:=hf it (List.mem_singleton_self _)
  rw[show (n:Int)-1-(i:Nat)=((n-1-i:Nat):Int) by omega] at st
  refine jXx st p (by have:=rv.length;simp;omega) (x:=u) (by simpa using hu) fun h' t st' sb=> ?_
  rw[show ((n-1-i:Nat):Int)-1=(n:Int)-1-((i+1:Nat):Int) by omega] at st'
  have I1:Inv X pins σ H {s with heap:=h',toks:=t}:=I.turned (t':=t) (fun b o hb e=>(sb.2 b hb).trans e) f0 f1 f3 f4 f5
  obtain⟨o,e,c,d⟩:=id st'
  exact⟨u,rfl,kZo (s:={s with heap:=h',toks:=t}) e c d (by decide) ⟨x,H,I1,ru,⟨rfl,fun ys hy=>(I.tuple_inj hy hq).symm▸hx⟩,⟨hi,st'⟩,fun b hb=>(hf b hb).1⟩⟩
 done:=by
  rintro X hP hw hK hc i pins s σ H E I hf ⟨hl,st⟩ hg
  subst hP hw hK
  have hg':n<=i:=hg
  obtain⟨f0,f1,_,f3,f4,f5⟩:=hf it (List.mem_singleton_self _)
  rw[show (n:Int)-1-(i:Nat)= -1 by omega] at st
  exact jY0 (I.ok.hd hc) st fun h' eb=>⟨rfl,I.turned (t':=s.toks) (fun b o hb e=>eb b o hb e) f0 f1 f3 f4 f5⟩
 self:=fun _ _ _ _ _ ⟨_,st⟩ h=>kJs st h
def qQc (ta:TA3):TI3:=fun τ G R=>ta τ G fun vs G1=>∃xs,vs=[.tup xs]/\R xs.reverse (fun _=>True) G1
theorem i_revT {X:Cx} {tg:Expr} {pos p:Pos} {a:Expr} {ta:TA3} (hg:Gl X "reversed") (hm:X.mg "reversed"=none) (hv:bootBuiltins "reversed"=some (.type "reversed")) (ha:PA3 X [a] ta) (hs:starEach [a] X.env=[(false,eval a X.env)]:=by rfl):
  PI3 X tg (.Call (.Name "reversed" p) [a] [] pos) (qQc ta):=by
 intro pins s τ G H R I h
 obtain⟨σ0,I0,_,_⟩:=id I
 refine Call_ (jQ1 I0 hg hm hv (PyProof.Rows.callWith_type1 (thn (ha pos pins s τ G H _ I h) fun us s1 w_=>w_.el fun xs' G1 H1 e1 i_ r_ q1=>i_.el fun σ I1 hs1 hg1=>r_.el fun as ras rvs=> ?_) hs rfl))
 obtain⟨xs,e,q⟩:=q1
 subst e
 obtain⟨v,rfl,rv⟩:=jVh ras
 obtain⟨u,rfl,ru⟩:=rvs.one
 obtain⟨pa,vs,e,hq,r⟩:=(show ∃a vs,v= .ref a/\H1 a=some (.tup vs)/\Reps X.K H1 xs vs from rv)
 subst e
 cases ru
 obtain⟨its,rvv,pl,hz⟩:=I1.tuple (.of hq)
 have hlen:its.length=xs.length:=by have:=rvv.length;have:=r.length;omega
 refine jUj pl (by have:=rvv.length;simp;omega) fun t=> ?_
 have st:IsTRev (s1.heap.push (jQ2 pa (((its.toArray).size:Int)-1))) s1.heap.objs.size pa ((xs.length:Int)-1-((0:Nat):Int)):=⟨_,Heap.get?_push_size _ rfl,rfl,by
  show Data.fields #[.ref pa,rawInt (((its.toArray).size:Int)-1)]=_
  rw[show ((its.toArray).size:Int)-1=(xs.length:Int)-1-((0:Nat):Int) by simp[hlen]]⟩
 refine kJs (s:={s1 with heap:=s1.heap.push (jQ2 pa (((its.toArray).size:Int)-1)),toks:=t}) st ?_
 have fr:∀b∈[s1.heap.objs.size],FpOk X pins H1 b:=fun b hb=>by
  obtain rfl:=List.mem_singleton.mp hb
  exact I1.fpOk (Nat.le_refl _) (I1.hok.fresh (Nat.le_refl _))
 refine⟨s1.heap.objs.size,[s1.heap.objs.size],_,_,xs.reverse,fun _=>True,G1,H1,rfl,e1,⟨σ,I1.kept (t':=t) fun b o e=>Heap.get?_push_of_some _ e,hs1,hg1⟩,kXy pa _ xs.length,⟨Nat.zero_le _,st⟩,fr,?_,q⟩
 intro i H2 G2 e2 g2 sty
 have h1:=e2.tup _ _ hq
 have h2:=Reps.mono e2 _ r
 have hl2:=h2.length
 rw[List.length_reverse]
 refine⟨fun hi=>⟨hi,vs,vs[xs.length-1-i]'(by omega),.of h1,by omega,List.getElem?_eq_getElem _⟩,fun hi=>hi,fun hi y H' ⟨eH,hy⟩=> ?_⟩
 subst eH
 obtain⟨t,ht,rt⟩:=h2.get' (hy vs (.of h1))
 exact⟨.refl _,g2,t,by rw[List.getElem?_reverse hi];exact ht,rt⟩
theorem kYg:typeLookup (.type "reversed") "__len__"=pure none:=by rw[typeLookup_type,builtinLookup_eq_fast];kernel_rfl
theorem kV4:typeLookup (.type "reversed") "__length_hint__"=pure (some (.builtin "reversed.__length_hint__")):=by rw[typeLookup_type,builtinLookup_eq_fast];kernel_rfl
theorem rl_slot:Slot "reversed" "__length_hint__" "reversed.__length_hint__":=
 .of (owner:="reversed") (n:="__length_hint__") (by rw[typeLookup_type,builtinLookup_eq_fast];kernel_rfl) (by decide +kernel) (by decide +kernel) (by decide +kernel)
  (by first | exact .inl (by decide +kernel) | exact .inr (by decide +kernel)) (by rw[isSubtype_type];kernel_rfl)
theorem qUs (a:Value):argsOk "reversed.__length_hint__" ⟨[a],[]⟩:=by
 unfold argsOk;rw[signature?_of (id:="reversed.__length_hint__") (n:=['_','_','t','n','i','h','_','h','t','g','n','e','l','_','_']) (o:=['d','e','s','r','e','v','e','r']) (by kernel_rfl) kJt];kernel_rfl
theorem qKd:entryFor table "reversed.__length_hint__"=some Builtin.«reversed.__length_hint__» :=entryFor_of_tree (by kernel_rfl)
section
variable {P:Program} {w:World} {A:Around} {E:Value->Shared->Prop} {s:Shared} {it l:Addr} {xs:Array Value}
theorem qUr {Q:Value->Shared->Prop} (hi:IsTRev s.heap it l ((xs.size:Int)-1)) (hl:IsTup s.heap l xs) (hz:xs.size<=sizeLine) (h:∀t u,Q (.int (xs.size:Int) t) {s with toks:=u}):wpAny (model P w) A (call (.builtin "reversed.__length_hint__") [.ref it]) Q E s:=by
 obtain⟨o,ho,hc,hd⟩:=id hi
 have hsl:=sizeLine_eq
 refine wpAny_call_entry rl_slot hi.typeIs qKd ?_ (qUs _)
 unfold Builtin.«reversed.__length_hint__»
 refine wpAny_bind (wpAny_of_eq (a:=Value.ref it) rfl ?_)
 (refine wpAny_bind (wpAny_field ho hd (x:= .ref l) rfl ?_))
 (rw[if_neg (show ¬ ((Value.ref l == Value.none)=true) from Bool.false_ne_true)])
 refine wpAny_bind (len_tuple hl (by omega) ?_)
 refine wpAny_bind (wpAny_of_eq (a:=some (xs.size:Int)) (by first | rfl | kernel_rfl) ?_)
 try dsimp only
 refine wpAny_bind (wpAny_field ho hd (x:=rawInt ((xs.size:Int)-1)) rfl ?_)
 refine (show wpAny _ _ (if (xs.size:Int)<(xs.size:Int)-1+1 then _ else _) _ _ _ from ?_)
 rw[if_neg (by omega),show (xs.size:Int)-1+1=xs.size by omega]
 exact wpAny_bind (wpAny_mkInt (wpAny_pure ⟨_,rfl,h _ _⟩))
theorem qUq {Q:Bool->Shared->Prop} (hi:IsTRev s.heap it l ((xs.size:Int)-1)) (hl:IsTup s.heap l xs) (hz:xs.size<=sizeLine) (h:∀b u,Q b {s with toks:=u}):wpAny (model P w) A (Builtin.List.listLengthHint (.ref it)) Q E s:=by
 have hsl:=sizeLine_eq
 have ty:=hi.typeIs
 (unfold Builtin.List.listLengthHint)
 refine wpAny_bind (wpAny_specialOf ty kYg ?_)
 refine (show wpAny _ A (specialOf (Value.ref it) (Str.ofString "__length_hint__") >>= _) _ _ _ from wpAny_bind (wpAny_specialOf ty kV4 ?_))
 generalize hn:("reversed.__length_hint__":String)=nm
 wp_delta
 rw[show splitId nm=some ("reversed","__length_hint__") by subst hn;decide +kernel];subst hn
 refine wpAny_bind (wpAny_isInstance (T:="reversed") (b:=true) ty (by rw[isSubtype_type];kernel_rfl) (wpAny_ite_split (fun z=>absurd z (by decide)) fun _=> ?_))
 refine wpAny_ite_split (fun z=>absurd z (by decide +kernel)) fun _=> ?_
 refine wpAny_bind (wpAny_rule ?_)
 refine wpAny_bind (wpAny_of_eq (rl_slot.bind _) ?_)
 try dsimp only
 refine wpAny_bind (wpAny_attempt (qUr hi hl hz fun t u=> ?_))
 split
 ·rename_i e he;cases he
 ·rename_i he;cases he
 ·rename_i r _ he
  cases he
  have ea:asInt? (Value.int (xs.size:Int) t)=pure (some (xs.size:Int)):=by first | rfl | kernel_rfl
  rw[ea,pure_bind]
  split
  ·rename_i n hn
   cases hn
   rw[if_neg (by rw[fitsIndex_both (by omega) (by omega)];exact Bool.false_ne_true),if_neg (by omega),if_neg (by rw[kVc (by simpa using hz)];exact Bool.false_ne_true)]
   exact wpAny_pure (h _ _)
  ·rename_i hn
   exact (hn _ rfl).elim
end
theorem qJy {prog:Program} {w:World} {A:Around} (hh:A.handled=none) (I l:Addr) (hne:l≠I) (items:Array Value) (hz:items.size<=sizeLine):
  Walks prog w A I [I,l] [I] items.size (fun i v=>items[items.size-1-i]? =some v) (fun i h=>i<=items.size/\IsTRev h I l ((items.size:Int)-1-(i:Int))/\IsTup h l items) where
 sub:=fun b hb=>(by simp at hb;simp[hb])
 frame:=fun _ _ _ x hk=>⟨x.1,x.2.1.at fun o e=>hk I (by simp) o e,let ⟨o,ho,r⟩:=x.2.2;⟨o,hk l (by simp) o ho,r⟩⟩
 item i s Q E hi x hQ:=by
  (have e:(items.size:Int)-1-(i:Int)=((items.size-1-i:Nat):Int):=by omega)
  have hit:=x.2.1
  rw[e] at hit
  (have hx:items[items.size-1-i]? =some (items[items.size-1-i]'(by omega)):=Array.getElem?_eq_getElem (by omega))
  refine jXx hit x.2.2 hz hx fun h' t hit' hs'=> ?_
  (have e2:((items.size-1-i:Nat):Int)-1=(items.size:Int)-1-((i+1:Nat):Int):=by omega)
  rw[e2] at hit'
  exact hQ _ h' t hx ⟨hi,hit',let ⟨o,ho,r⟩:=x.2.2;⟨o,(hs'.2 l hne).trans ho,r⟩⟩ fun b o hb eo=>hs'.extBut b o (fun h=>hb (by simp[h])) eo
 done:=fun s Q E x hQ=>by
  (have e:(items.size:Int)-1-(items.size:Int)= -1:=by omega)
  have hit:=x.2.1
  rw[e] at hit
  exact jY0 hh hit fun h' he'=>hQ h' s.toks fun b o hb eo=>he' b o (fun h=>hb (by simp[h])) eo
 self:=fun _ _ _ _ x hQ=>kJs x.2.1 hQ
theorem kZw {P:Program} {w:World} {A:Around} {s:Shared} {R:Result->Shared->Prop} {it l S:Addr} {xs:Array Value} (hh:A.handled=none) (hi:IsTRev s.heap it l ((xs.size:Int)-1)) (hl:IsTup s.heap l xs) (hz:xs.size<=sizeLine) (res:Value) (c0:Nat)
  (hS:s.heap.get? S=some {cls:= .type "list",data:= .seq #[] c0})
  (hR:∀(g:Heap) (tk:Nat) (acc:Array Value) (c':Nat),(∀d o,d≠S->d≠it->s.heap.get? d=some o->g.get? d=some o)->g.get? S=some {cls:= .type "list",dict:=none,data:= .seq acc c',slots:= #[]}->ItemsOf (fun i v=>xs[xs.size-1-i]? =some v) acc xs.size->R (.ok (.ret res)) {s with heap:=g,toks:=tk}):
  wpAny (model P w) A.in1 (Builtin.List.listExtendWith (.ref S) (.ref it) res) (fun fin z=>match fin with | .done f=>R (.ok f) z | .again c'=>c'.quiet=true/\codeAny (model P w) A c' R z) (fun e z=>R (.error e) z) s:=by
 have hSi:S≠it:=by
  rintro rfl
  obtain⟨o,ho,hc,_⟩:=hi
  rw[hS] at ho;cases ho
  exact absurd hc (show ¬ Value.type "list"=Value.type "reversed" by decide)
 have hSl:S≠l:=by
  rintro rfl
  obtain⟨o,ho,hc,_⟩:=hl
  rw[hS] at ho;cases ho
  exact absurd hc (show ¬ Value.type "list"=Value.type "tuple" by decide)
 have ne:l≠it:=by
  rintro rfl
  obtain⟨o,ho,hc,_⟩:=hi
  obtain⟨o',ho',hc',_⟩:=hl
  rw[ho] at ho';cases ho'
  rw[hc] at hc'
  exact absurd hc' (by decide)
 have key:∀(h:Heap) (c₁ tk:Nat),IsTRev h it l ((xs.size:Int)-1)->IsTup h l xs->(∀b o,b≠S->s.heap.get? b=some o->h.get? b=some o)->
   h.get? S=some {cls:= .type "list",data:= .seq #[] c₁ }->codeAny (model P w) A (.builtin "list.extend.loop" ⟨[.ref S,.ref it,res],[]⟩) R {s with heap:=h,toks:=tk}:=by
  intro h c₁ tk hi' hl' hk hS₁
  have Wk:=(qJy (prog:=P) (w:=w) (A:=A.in1) hh it l ne xs hz).toS
  refine codeAny_extend_loopS Wk hz S (by simp[hSi,hSl]) res xs.size 0 _ #[] c₁ rfl (Nat.zero_le _) ⟨Nat.zero_le _,by simpa using hi',hl'⟩ hS₁ (ItemsOf.nil _) fun z acc c' hm hS' hacc=> ?_
  rw[Moved.eq_with hm]
  exact hR z.heap z.toks acc c' (fun b o h1 h2 e=>hm.heap b o (by simp[h1,h2]) (hk b o h1 e)) hS' hacc
 (unfold Builtin.List.listExtendWith)
 refine wpAny_bind (wpAny_typeOf hi.typeIs ?_)
 have z1:Builtin.List.listSameRef (.ref S) (.ref it)=false:=by simp[Builtin.List.listSameRef,hSi]
 have z2:(Value.type "reversed" == Value.type "list")=false:=by decide
 have z3:(Value.type "reversed" == Value.type "tuple")=false:=by decide
 simp only[z1,z2,z3,Bool.or_false,Bool.false_eq_true,if_false]
 refine wpAny_bind (kJs hi (wpAny_bind (wpAny_holding (qUq hi hl hz fun b u=> ?_))))
 refine wpAny_ite_split (fun _=> ?_) (fun _=>wpAny_pure ⟨plainId_quiet F.plain_extend_loop _,key _ c0 _ hi hl (fun b o _ e=>e) hS⟩)
 refine wpAny_bind (wpAny_rule (wpAny_bind ?_))
 refine (show wpAny _ _ (updateSeq S (·.push .none) >>= fun _=>updateSeq S (·.pop)) _ _ _ from wpAny_bind (wpAny_updateSeq hS rfl ?_))
 (have hS₂:=Heap.get?_update_self (Obj.mapSeq (·.push Value.none)) hS rfl)
 (refine wpAny_updateSeq (hz:=by seq_fits) hS₂ rfl ?_)
 (have hS₃:=Heap.get?_update_self (Obj.mapSeq (·.pop)) hS₂ rfl)
 have oth:∀b o,b≠S->s.heap.get? b=some o->((s.heap.update S (Obj.mapSeq (·.push Value.none))).update S (Obj.mapSeq (·.pop))).get? b=some o:=fun b o hb e=>(Heap.get?_update_other _ _ (Ne.symm hb)).trans ((Heap.get?_update_other _ _ (Ne.symm hb)).trans e)
 exact wpAny_pure ⟨plainId_quiet F.plain_extend_loop _,key _ _ _ (hi.at fun o e=>oth _ o hSi.symm e) (let ⟨o,ho,r⟩:=hl;⟨o,oth _ o hSl.symm ho,r⟩) oth hS₃⟩
theorem qU6 {P:Program} {w:World} {A:Around} {E:Value->Shared->Prop} {s:Shared} {it l:Addr} {xs:Array Value} {Q:Value->Shared->Prop} (hh:A.handled=none) (hi:IsTRev s.heap it l ((xs.size:Int)-1)) (hl:IsTup s.heap l xs) (hz:xs.size<=sizeLine)
  (hQ:∀(g:Heap) (tk:Nat) (acc:Array Value) (c':Nat),(∀d o,d≠it->s.heap.get? d=some o->g.get? d=some o)->g.get? s.heap.objs.size=some {cls:= .type "list",dict:=none,data:= .seq acc c',slots:= #[]}->ItemsOf (fun i v=>xs[xs.size-1-i]? =some v) acc xs.size->Q (.ref s.heap.objs.size) {s with heap:=g,toks:=tk}):
  wpAny (model P w) A (call (.type "list") [.ref it]) Q E s:=by
 refine callType_codes (Q₁:=fun obj s₁=>obj= .ref s.heap.objs.size/\s₁={s with heap:=s.heap.push {cls:= .type "list",data:= .seq #[]} }) PySem.F.called_list (PySem.F.typeCall_list_1 _) PySem.F.entry_list_init (code_list_new _ ⟨rfl,rfl⟩) fun obj s₁ h₁=> ?_
 obtain⟨rfl,rfl⟩:=h₁
 (have hS:(s.heap.push {cls:= .type "list",data:= .seq #[]}).get? s.heap.objs.size=some {cls:= .type "list",data:= .seq #[]}:=Heap.get?_push_size _ rfl)
 refine⟨⟨_,hS,rfl⟩,PySem.F.args_list_init_2 _ _,?_⟩
 refine (show wpAny _ _ (do let old <-Builtin.List.listItems (.ref s.heap.objs.size);Builtin.List.listUpdate (.ref s.heap.objs.size) (fun _=> #[]);letGo old.toList.reverse;Builtin.List.listExtendWith (.ref s.heap.objs.size) (.ref it) .none) _ _ _ from wpAny_bind ?_)
 unfold Builtin.List.listItems
 (refine wpAny_bind (wpAny_seqItems hS rfl (wpAny_pure ?_)))
 refine (show wpAny _ _ (updateSeq s.heap.objs.size (fun _=> #[]) >>= fun _=>letGo (#[]:Array Value).toList.reverse >>= fun _=>Builtin.List.listExtendWith (.ref s.heap.objs.size) (.ref it) .none) _ _ _ from wpAny_bind (wpAny_updateSeq hS rfl ?_))
 (have hS₂:=Heap.get?_update_self (Obj.mapSeq (fun _=>(#[]:Array Value))) hS rfl)
 have oth:∀b o,s.heap.get? b=some o->((s.heap.push {cls:= .type "list",data:= .seq #[]}).update s.heap.objs.size (Obj.mapSeq (fun _=>(#[]:Array Value)))).get? b=some o:=
  fun b o e=>(Heap.get?_update_other _ _ (Nat.ne_of_gt (Heap.lt_size e))).trans (Heap.get?_push_of_some _ e)
 refine wpAny_bind (wpAny_letGo ?_)
 refine kZw (A:=A.in1) (s:={s with heap:=(s.heap.push {cls:= .type "list",data:= .seq #[]}).update s.heap.objs.size (Obj.mapSeq (fun _=>(#[]:Array Value)))}) hh (hi.at fun o e=>oth _ o e) (let ⟨o,ho,r⟩:=hl;⟨o,oth _ o ho,r⟩) hz .none _ hS₂ fun g tk acc c' kp hS' itm=> ?_
 exact⟨rfl,hQ g tk acc c' (fun d o h1 e=>kp d o (Nat.ne_of_lt (Heap.lt_size e)) h1 (oth _ _ e)) hS' itm⟩
section
variable {X:Cx}
def kUw (ta:TA3):TE3:=fun τ G Q=>ta τ G fun vs G1=>∃xs,vs=[.tup xs]/\∀q,G1 q=none->Q (.ref q) (gup G1 q (.lst xs.reverse))
theorem qVu {pos pos' p p':Pos} {a:Expr} {ta:TA3} (hc:X.calm=true) (hl:Gl X "list") (hlm:X.mg "list"=none) (hg:Gl X "reversed") (hm:X.mg "reversed"=none) (hv:bootBuiltins "reversed"=some (.type "reversed")) (ha:PA3 X [a] ta) (hs:starEach [a] X.env=[(false,eval a X.env)]:=by rfl)
  (hs':starEach [Expr.Call (.Name "reversed" p) [a] [] pos] X.env=[(false,eval (.Call (.Name "reversed" p) [a] [] pos) X.env)]:=by rfl):
  PE3 X (.Call (.Name "list" p') [.Call (.Name "reversed" p) [a] [] pos] [] pos') (kUw ta):=by
 intro pins s τ G H Q I h
 obtain⟨σ,I0,_,_⟩:=id I
 refine Call_ (jQ1 I0 hl hlm rfl (PyProof.Rows.callWith_type1 ?_ hs' rfl))
 rw[hs']
 refine Calls.spliced_cons (Call_ (jQ1 I0 hg hm hv (PyProof.Rows.callWith_type1 (thn (ha pos pins s τ G H _ I h) fun us s1 w_=>w_.el fun ys G1 H1 e1 i_ r_ q1=>i_.el fun σ1 I1 hs1 hg1=>r_.el fun as ras rvs=> ?_) hs rfl)))
 obtain⟨xs,e,q⟩:=q1
 subst e
 obtain⟨v,rfl,rv⟩:=jVh ras
 obtain⟨u,rfl,ru⟩:=rvs.one
 obtain⟨pa,vs,e,hq,r⟩:=(show ∃a vs,v= .ref a/\H1 a=some (.tup vs)/\Reps X.K H1 xs vs from rv)
 subst e
 cases ru
 obtain⟨its,rvv,pl,hz⟩:=I1.tuple (.of hq)
 have hlen:its.length=xs.length:=by have:=rvv.length;have:=r.length;omega
 have hvl:=rvv.length
 refine jUj pl (by simp;omega) fun t=>Calls.spliced_nil ?_
 obtain⟨ol,hol,hcl⟩:=id pl
 refine qU6 (s:={s1 with heap:=s1.heap.push (jQ2 pa ((its.toArray.size:Int)-1)),toks:=t}) (it:=s1.heap.objs.size) (l:=pa) (xs:=its.toArray) (I1.ok.hd hc) ⟨_,Heap.get?_push_size _ rfl,rfl,rfl⟩ ⟨ol,Heap.get?_push_of_some _ hol,hcl⟩ (by simp;omega) fun g tk acc c' kp hn itm=> ?_
 have hacc:acc.toList=its.reverse:=by
  apply List.ext_getElem?
  intro i
  by_cases hi:i<its.length
  ·have hia:i<acc.size:=by rw[itm.1];simpa using hi
   have e1:acc.toList[i]? =some acc[i]:=by simp[hia]
   have e2:=itm.2 i acc[i] (by simp[hia])
   rw[e1,List.getElem?_reverse hi]
   simpa using e2.symm
  ·rw[List.getElem?_eq_none (by have:=itm.1;simp at this ⊢; omega),List.getElem?_eq_none (by simp;omega)]
 have hge:s1.heap.objs.size<=(s1.heap.push (jQ2 pa ((its.toArray.size:Int)-1))).objs.size:=by rw[Heap.size_push];exact Nat.le_succ _
 have fr:=I1.hok.fresh hge
 have kp1:∀b o,s1.heap.get? b=some o->g.get? b=some o:=fun b o e=>kp b o (Nat.ne_of_lt (Heap.lt_size e)) (Heap.get?_push_of_some _ e)
 have I3:=I1.laid (a:=(s1.heap.push (jQ2 pa ((its.toArray.size:Int)-1))).objs.size) (o:= .lst vs.reverse) (h':=g) (t':=tk) kp1 hge ⟨by simp;omega,acc.toList,c',by rw[hacc];exact rvv.reverse,by simpa using hn⟩
 have ext:Ext H1 (upd H1 (s1.heap.push (jQ2 pa ((its.toArray.size:Int)-1))).objs.size (.lst vs.reverse)):= .upd (.none fr)
 exact⟨.ref _,_,_,e1.trans ext,⟨σ1,I3,hs1.mono ext,hg1.lstNew r.reverse (.none fr)⟩,⟨.ref _,rfl,rfl⟩,q _ (hg1.fresh fr)⟩
end
section
variable {X:Cx}
end
end L3
namespace PySem
open Sem (wp)
set_option maxRecDepth 100000
theorem qVy:typeLookup (.type "list") "keys"=pure none:=by rw[typeLookup_type,builtinLookup_eq_fast];kernel_rfl
theorem qJa {prog:Program} {w:World} {A:Around} {E:Value->Shared->Prop} {s:Shared} {a:Addr} {xs:Array Value} {k:Nat} {Q:Option Value->Shared->Prop} (hA:A.handled=none) (hx:s.heap.get? a=some {cls:= .type "list",dict:=none,data:= .seq xs k,slots:= #[]})
  (h:∀h' tk,(∀b o,s.heap.get? b=some o->h'.get? b=some o)->Q none {s with heap:=h',toks:=tk}):wpAny (model prog w) A (getAttr? (.ref a) "keys") Q E s:=by
 (obtain⟨hp,g,d,tk,os⟩:=s)
 (have hT:∀tk',(⟨hp,g,d,tk',os⟩:Shared).TypeIs (.ref a) "list":=fun _=>⟨_,hx,rfl⟩)
 have f1:=sub_AttributeError
 (have f3:=F.slot_list_getattribute.lookup)
 (have f4:=F.slot_list_getattribute.bind (.ref a))
 (have f5:=am_list_getattr_none)
 unfold getAttr? getAttrBy?
 (refine wpAny_bind (wpAny_mkText ?_))
 (refine wpAny_bind (wpAny_attempt ?_))
 unfold getAttrBy
 repeat (any_goals (first | assumption | exact hT _ | ((with_reducible show wpAny _ _ (call (Value.builtin "list.__getattribute__") _ _) _ _ _);refine call_meets F.slot_list_getattribute (hT _) am_entry_list_getattribute (F.args_list_getattribute_2 _ _) (meets_getattribute_miss_list a xs k #[] _ _ qVy (by decide +kernel) (by show 4+100<=sizeLine;rw[sizeLine_eq];decide)) ⟨hx,hA,fun h' tk' e hx'=> ?_⟩) | wp_step))
 (obtain⟨t',u',he⟩:=hx'.there)
 refine (show wpAny _ _ (getattributeRaised _ _ _ _ _ _ _) _ _ _ from ?_)
 unfold getattributeRaised
 (repeat (any_goals (first | assumption | wp_step)))
 exact h _ _ hx'.keeps
end PySem
namespace L3
open PySem PySem.Spec PyProof.Rows L2
section
variable {prog:Program} {w:World} {A:Around} {E:Value->Shared->Prop} {s:Shared}
theorem kVs:entryFor table "dict.update.loop"=some Builtin.«dict.update.loop» :=entryFor_of_tree (by kernel_rfl)
theorem jYn:plainId "dict.update.loop"=true:=by decide +kernel
theorem qVw {p:Addr} {x y:Value} {Q:List Value->Shared->Prop} (hp:IsTup s.heap p #[x,y]) (k:Q [x,y] s):wpAny (model prog w) A (Builtin.Dict.pairItems (.ref p)) Q E s:=by
 obtain⟨o,ho,hc,n,hd⟩:=id hp
 unfold Builtin.Dict.pairItems
 refine wpAny_bind (wpAny_typeOf hp.typeIs ?_)
 rw[if_pos (by decide)]
 exact wpAny_bind (wpAny_seqItems ho hd (wpAny_pure k))
theorem kZ9 {kvs:List (Key×Value)} {i:Int} {y:Value} (h:(Sum.inl i:Key)∉kvs.map (·.1)):stored kvs (.inl i) y=kvs++[(.inl i,y)]:=by
 unfold stored
 rw[if_neg]
 intro z
 obtain⟨x,hx,e⟩:=List.any_eq_true.mp z
 exact h (List.mem_map.mpr ⟨x,hx,of_decide_eq_true e⟩)
structure DlAt (h:Heap) (l:Addr) (ts:List Addr) (ps:List ((Int×Tok)×Value)):Prop where
 li:h.IsList l (ts.map Value.ref).toArray
 len:ts.length=ps.length
 at_:∀(i:Nat) t p,ts[i]? =some t->ps[i]? =some p->IsTup h t #[.int p.1.1 p.1.2,p.2]
theorem DlAt.moved {h h':Heap} {l:Addr} {ts:List Addr} {ps:List ((Int×Tok)×Value)} (a:DlAt h l ts ps) (k:∀b o,h.get? b=some o->(o.cls= .type "tuple"\/b=l)->h'.get? b=some o):DlAt h' l ts ps:=
 ⟨a.li.at fun o e=>k _ o e (.inr rfl),a.len,fun i t p e1 e2=>let ⟨o,ho,hc,r⟩:=a.at_ i t p e1 e2;⟨o,k _ o ho (.inl hc),hc,r⟩⟩
def dlK (ps:List ((Int×Tok)×Value)):List (Key×Value):=ps.map fun p=>(Sum.inl p.1.1,p.2)
theorem qVx {R:Result->Shared->Prop} {it l d:Addr} {ts:List Addr} {ps:List ((Int×Tok)×Value)} (hh:A.handled=none) (dl:d≠l) (di:d≠it) (li:l≠it) (hn:(ps.map (·.1.1)).Nodup) (hs:ps.length<=sizeLine):
  ∀(k i:Nat) (s:Shared) (j:Int) (jt:Tok),ps.length-i=k->i<=ps.length->DlAt s.heap l ts ps->s.heap.IsListIter it l i->s.heap.DictOf (jJ6 prog w) d ((dlK ps).take i)->
   (∀h' t',h'.DictOf (jJ6 prog w) d (dlK ps)->(∀b o,b≠d->b≠it->s.heap.get? b=some o->h'.get? b=some o)->R (.ok (.ret .none)) {s with heap:=h',toks:=t'})->
   codeAny (model prog w) A (.builtin "dict.update.loop" ⟨[.ref d,.ref it,.int j jt,.none],[]⟩) R s:=by
 have zl:(dlK ps).length=ps.length:=by simp[dlK]
 intro k
 induction k with
 | zero=>
  intro i s j jt hk hi a hit hd hR
  have hin:i=ps.length:=by omega
  subst hin
  refine codeAny_builtin kVs ?_
  rw[Around.under_plainId jYn _]
  refine (show wpAny _ A.in1 (pyNext (.ref it) >>= _) _ _ s from ?_)
  refine wpAny_bind (wpAny_pyNext_list_end (A:=A.in1) (by simpa using hh) hit a.li (by have:=a.len;simp;omega) fun h' kp=> ?_)
  refine (show wpAny _ A.in1 (Builtin.Dict.addKeywords d [] >>= _) _ _ _ from wpAny_bind (wpAny_pure (wpAny_pure ?_)))
  rw[<-zl,List.take_length] at hd
  have hd':h'.DictOf (jJ6 prog w) d (dlK ps):=by
   obtain⟨o',es,ep,ho',r⟩:=hd
   exact⟨o',es,ep,kp d o' di ho',r⟩
  exact hR h' s.toks hd' fun b o _ c1 e=>kp b o c1 e
 | succ k ih=>
  intro i s j jt hk hi a hit hd hR
  have hlt:i<ps.length:=by omega
  have hlt2:i<ts.length:=by rw[a.len];exact hlt
  have tp:=a.at_ i ts[i] ps[i] (List.getElem?_eq_getElem hlt2) (List.getElem?_eq_getElem hlt)
  refine codeAny_builtin kVs ?_
  rw[Around.under_plainId jYn _]
  refine (show wpAny _ A.in1 (pyNext (.ref it) >>= _) _ _ s from ?_)
  refine wpAny_bind (wpAny_pyNext_list_item (A:=A.in1) hit a.li (x:= .ref ts[i]) (by simp[hlt2]) fun h' hit' sb=> ?_)
  have tne:∀b o,s.heap.get? b=some o->o.cls= .type "tuple"->b≠it:=fun b o ho hc=>by
   rintro rfl
   obtain⟨o',ho',hc',_⟩:=hit
   rw[ho] at ho';cases ho'
   rw[hc] at hc'
   exact absurd hc' (by decide)
  have kp1:∀b o,s.heap.get? b=some o->(o.cls= .type "tuple"\/b=l)->h'.get? b=some o:=fun b o e z=>(sb.2 b (z.elim (fun hc=>tne b o e hc) fun q=>by rw[q];exact li)).trans e
  have a':=a.moved kp1
  have hd':h'.DictOf (jJ6 prog w) d ((dlK ps).take i):=by
   obtain⟨o',es,ep,ho',r⟩:=hd
   exact⟨o',es,ep,(sb.2 d di).trans ho',r⟩
  have tp':IsTup h' ts[i] #[.int ps[i].1.1 ps[i].1.2,ps[i].2]:=a'.at_ i _ _ (List.getElem?_eq_getElem hlt2) (List.getElem?_eq_getElem hlt)
  have nk:(Sum.inl ps[i].1.1:Key)∉((dlK ps).take i).map (·.1):=by
   rw[List.map_take,dlK,List.map_map]
   intro z
   obtain⟨m,hm,e⟩:=List.getElem_of_mem z
   rw[List.length_take] at hm
   have hm':m<ps.length:=by simp at hm;omega
   rw[List.getElem_take,List.getElem_map] at e
   have e':ps[m].1.1=ps[i].1.1:=Sum.inl.inj e
   have:=(List.getElem_inj (i:=m) (j:=i) (h₀:=by simpa using hm') (h₁:=by simpa using hlt) hn).mp (by simpa using e')
   simp at hm;omega
  have tk1:(dlK ps).take i++[(.inl ps[i].1.1,ps[i].2)]=(dlK ps).take (i+1):=by
   rw[List.take_succ,List.getElem?_eq_getElem (by rw[zl];exact hlt)]
   simp[dlK]
  refine wpAny_bind (wpAny_holding (wpAny_bind (wpAny_tryCatch (qVw (s:={s with heap:=h'}) tp' (wpAny_holding (wpAny_dictSet_pairs (s:={s with heap:=h'}) (jZf prog w _ _) hd' (fun h2 hd2 sb2=> ?_) (by rw[List.length_take];omega)))))))
  rw[kZ9 nk,tk1] at hd2
  have dne:∀b o,h'.get? b=some o->o.cls= .type "tuple"->b≠d:=fun b o ho hc=>by
   rintro rfl
   obtain⟨o',ho',hc'⟩:=hd'.typeIs (s:={s with heap:=h'})
   rw[show h'.get? b=some o' from ho'] at ho;cases ho
   rw[hc] at hc'
   exact absurd hc' (by decide)
  refine wpAny_pure ⟨plainId_quiet jYn _,ih (i+1) _ _ _ (by omega) hlt (a'.moved fun b o e z=>(sb2.2 b (z.elim (fun hc=>dne b o e hc) fun q=>by rw[q];exact dl.symm)).trans e) (hit'.at fun o e=>(sb2.2 it di.symm).trans e) hd2 fun h3 t3 hd3 kp3=>hR h3 t3 hd3 fun b o c1 c2 e=>kp3 b o c1 c2 ((sb2.2 b c1).trans ((sb.2 b c2).trans e))⟩
theorem qVz {l:Addr} {ts:List Addr} {ps:List ((Int×Tok)×Value)} {c:Nat} (hh:A.handled=none) (hl:s.heap.get? l=some {cls:= .type "list",dict:=none,data:= .seq (ts.map Value.ref).toArray c,slots:= #[]}) (a:DlAt s.heap l ts ps) (hn:(ps.map (·.1.1)).Nodup) (hs:ps.length<=sizeLine) {Q:Value->Shared->Prop}
  (k:∀h' t',h'.DictOf (jJ6 prog w) s.heap.objs.size (dlK ps)->(∀b o,s.heap.get? b=some o->h'.get? b=some o)->Q (.ref s.heap.objs.size) {s with heap:=h',toks:=t'}):
  wpAny (model prog w) A (call (.type "dict") [.ref l]) Q E s:=by
 refine callType_codes (Q₁:=fun obj s₁=>obj= .ref s.heap.objs.size/\s₁={s with heap:=s.heap.push {cls:= .type "dict",data:= .dict #[]} }) PySem.F.kt_called_dict (PySem.F.kt_typeCall_dict_1 _) PySem.F.entry_dict_init (kt_code_dict_new _ ⟨rfl,rfl⟩) ?_
 rintro obj s₁ ⟨rfl,rfl⟩
 have hnew:(s.heap.push {cls:= .type "dict",data:= .dict #[]}).DictOf (jJ6 prog w) s.heap.objs.size []:=Heap.DictOf.new s.heap
 refine⟨hnew.typeIs,PySem.F.args_dict_init_2 _ _,?_⟩
 (unfold Builtin.«dict.__init__»)
 refine wpAny_bind ?_
 (unfold Builtin.Dict.selfAndRest)
 (refine wpAny_bind (wpAny_notOrdered_dict hnew.typeIs ?_))
 refine (show wpAny _ _ (pure (s.heap.objs.size,[Value.ref l])) _ _ _ from ?_)
 refine wpAny_pure ?_
 refine (show wpAny _ _ (Builtin.Dict.updateFrom "dict.__init__" s.heap.objs.size (.ref l) [] .none) _ _ _ from ?_)
 (unfold Builtin.Dict.updateFrom)
 have up:∀b o,s.heap.get? b=some o->(s.heap.push {cls:= .type "dict",data:= .dict #[]}).get? b=some o:=fun b o e=>Heap.get?_push_of_some _ e
 have hl0:=up _ _ hl
 have hTl:Shared.TypeIs {s with heap:=s.heap.push {cls:= .type "dict",data:= .dict #[]} } (.ref l) "list":=⟨_,hl0,rfl⟩
 refine wpAny_bind (wpAny_typeOf hTl ?_)
 rw[if_pos (by decide)]
 refine wpAny_bind (qJa (s:={s with heap:=s.heap.push {cls:= .type "dict",data:= .dict #[]} }) (by simpa using hh) hl0 fun g tk kp=> ?_)
 simp only[Option.isNone_none,if_true]
 refine wpAny_bind (wpAny_rule ?_)
 have kp':∀b o,s.heap.get? b=some o->g.get? b=some o:=fun b o e=>kp b o (up b o e)
 have a1:DlAt g l ts ps:=a.moved fun b o e _=>kp' b o e
 refine wpAny_bind (wpAny_pyIter_list (s:={s with heap:=g,toks:=tk}) a1.li ?_)
 have hd0:g.DictOf (jJ6 prog w) s.heap.objs.size []:=by
  obtain⟨o',es,ep,ho',r⟩:=hnew
  exact⟨o',es,ep,kp _ o' ho',r⟩
 have gd:s.heap.objs.size<g.objs.size:=by obtain⟨o',es,ep,ho',r⟩:=hd0;exact Heap.lt_size ho'
 have ll:l<s.heap.objs.size:=Heap.lt_size hl
 refine wpAny_pure ⟨plainId_quiet jYn _,qVx (A:=A.in1) (ts:=ts) (ps:=ps) (l:=l) (by simpa using hh) (Nat.ne_of_gt ll) (Nat.ne_of_lt gd) (Nat.ne_of_lt (Nat.lt_trans ll gd)) hn hs ps.length 0 _ _ _ (by omega) (Nat.zero_le _) (a1.moved fun b o e _=>Heap.get?_push_of_some _ e) ⟨_,Heap.get?_push_size _ rfl,rfl,rfl⟩ ?_ fun h4 t4 hd4 kp4=>⟨rfl,k h4 t4 hd4 fun b o e=>kp4 b o (Nat.ne_of_lt (Heap.lt_size e)) (Nat.ne_of_lt (Nat.lt_trans (Heap.lt_size e) gd)) (Heap.get?_push_of_some _ (kp' b o e))⟩⟩
 obtain⟨o',es,ep,ho',r⟩:=hd0
 exact⟨o',es,ep,Heap.get?_push_of_some _ ho',r⟩
end
theorem kVa {K:PySem.W.Frag} {H:Hp}:∀ {kvs:List (Int×T)} {vs:List V},Reps K H (kvs.map fun kv=>T.tup [.int kv.1,kv.2]) vs->∃qs:List (Addr×V),vs=qs.map (fun q=>V.ref q.1)/\Reps K H (kvs.map (·.2)) (qs.map (·.2))/\Paired (fun (kv:Int×T) (q:Addr×V)=>H q.1=some (.tup [.int kv.1,q.2])) kvs qs
 | [],_,h=>by cases h;exact⟨[],rfl,rfl,.nil⟩
 | kv::kvs,_,⟨v,ws,e,r,rs⟩=>by
  subst e
  obtain⟨a,us,e,h1,h2⟩:=(show ∃a us,v= .ref a/\H a=some (.tup us)/\Reps K H [.int kv.1,kv.2] us from r)
  subst e
  obtain⟨x,y,rfl,r1,r2⟩:=kKo h2
  cases (show x= .int kv.1 from r1)
  obtain⟨qs,e1,e2,e3⟩:=kVa rs
  exact⟨(a,y)::qs,by rw[e1];rfl,⟨_,_,rfl,r2,e2⟩,.cons h1 e3⟩
theorem qKr {X:Cx} {pins:List (Addr×Obj)} {σ:L2.St} {H:Hp} {s:Shared} (I:Inv X pins σ H s) {kvs:List (Int×T)} {qs:List (Addr×V)} (h:Paired (fun (kv:Int×T) (q:Addr×V)=>H q.1=some (.tup [.int kv.1,q.2])) kvs qs):
  ∃ps:List ((Int×Tok)×Value),ps.map (·.1.1)=kvs.map (·.1)/\Vals (qs.map (·.2)) (ps.map (·.2))/\Paired (fun (q:Addr×V) (p:(Int×Tok)×Value)=>IsTup s.heap q.1 #[.int p.1.1 p.1.2,p.2]) qs ps:=by
 induction h with
 | nil=>exact⟨[],rfl,.nil,.nil⟩
 | @cons kv q kvs qs h t ih=>
  obtain⟨ps,e1,e2,e3⟩:=ih
  obtain⟨its,r,tp,_⟩:=I.tuple (.of h)
  obtain⟨u,v,rfl,ru,rv⟩:=r.two
  obtain⟨tk,rfl⟩:=ru
  exact⟨((kv.1,tk),v)::ps,by rw[List.map_cons,e1];rfl,.cons rv e2,.cons tp e3⟩
theorem kYy {α β:Type} {R:α->β->Prop} {l:List α} {m:List β} (h:Paired R l m):∀(i:Nat) a b,l[i]? =some a->m[i]? =some b->R a b:=by
 induction h with
 | nil=>intro i a b e;simp at e
 | @cons x y l m r t ih=>
  intro i a b e1 e2
  cases i with
  | zero=>cases e1;cases e2;exact r
  | succ i=>exact ih i a b (by simpa using e1) (by simpa using e2)
theorem kKj:∀ {ts:List Addr} {us:List Value},Vals (ts.map V.ref) us->us=ts.map Value.ref
 | [],_,.nil=>rfl
 | t::ts,_,.cons r rs=>by rw[List.map_cons,<-kKj rs];exact congrArg (· ::_) r
theorem kv_of {kvs:List (Int×T)} {ws:List V} {ps:List ((Int×Tok)×Value)} (h1:ps.map (·.1.1)=kvs.map (·.1)) (h2:Vals ws (ps.map (·.2))):KV ((kvs.map fun kv=>(Sum.inl kv.1:Key)).zip ws) (dlK ps):=by
 induction ps generalizing kvs ws with
 | nil=>cases kvs with
  | nil=>exact .nil
  | cons=>simp at h1
 | cons p ps ih=>cases kvs with
  | nil=>simp at h1
  | cons kv kvs=>
   cases h2 with
   | cons r rs=>
    simp only[List.map_cons,List.cons.injEq] at h1
    exact .cons ⟨(congrArg Sum.inl h1.1).symm,r⟩ (ih h1.2 rs)
theorem qQ2 {K:PySem.W.Frag} {H:Hp}:∀ {kvs:List (Int×T)} {ws:List V},Reps K H (kvs.map (·.2)) ws->PKV K H (kvs.map fun kv=>((Sum.inl kv.1:Key),kv.2)) ((kvs.map fun kv=>(Sum.inl kv.1:Key)).zip ws)
 | [],_,h=>by cases h;exact .nil
 | kv::kvs,_,⟨v,ws,e,r,rs⟩=>by subst e;exact .cons ⟨rfl,r⟩ (qQ2 rs)
section
variable {X:Cx}
noncomputable def kYs:List T->Gp->VK3->Prop:=fun vs G1 Q=>∃(p:Addr) (kvs:List (Int×T)),vs=[.ref p]/\G1 p=some (.lst (kvs.map fun kv=> .tup [.int kv.1,kv.2]))/\(kvs.map (·.1)).Nodup/\kvs.length<=1000/\∀q,G1 q=none->Q (.ref q) (gup G1 q (.dck (kvs.map fun kv=>(.inl kv.1,kv.2))))
theorem qV6 (hc:X.calm=true):Call3 X (.type "dict") kYs:=by
 rintro pins s τ G H xs us Q ⟨σ,I,hs,hg⟩ ⟨as,ras,rvs⟩ ⟨p,kvs,ex,hp,hnd,hl,q⟩
 subst ex
 obtain⟨v,rfl,rv⟩:=jVh ras
 obtain⟨u,rfl,ru⟩:=rvs.one
 cases (show v= .ref p from rv)
 cases ru
 obtain⟨vs,h1,h2⟩:=hg.lst hp
 obtain⟨qs,rfl,r2,pr⟩:=kVa h2
 obtain⟨hz,its,n,r,hlen,e⟩:=I.lstM h1
 obtain⟨ps,p1,p2,p3⟩:=qKr I pr
 have ei:=kKj (ts:=qs.map (·.1)) (us:=its) (by rw[List.map_map];exact r)
 subst ei
 have lq:qs.length=ps.length:=Paired.length p3
 have lk:kvs.length=qs.length:=Paired.length pr
 have big:=I.big
 have hsl:=sizeLine_eq
 refine qVz (s:=s) (ts:=qs.map (·.1)) (ps:=ps) (I.ok.hd hc) e ⟨⟨_,e,rfl,_,rfl⟩,by rw[List.length_map];exact lq,fun i t p e1 e2=> ?_⟩ (by rw[p1];exact hnd) (by omega) fun h' t' dd kp=> ?_
 ·rw[List.getElem?_map] at e1
  cases e3:qs[i]? with
  | none=>rw[e3] at e1;cases e1
  | some q=>rw[e3] at e1;cases e1;exact kYy p3 i q p e3 e2
 ·have fr:=I.hok.fresh (Nat.le_refl s.heap.objs.size)
  have I3:=I.laid (a:=s.heap.objs.size) (o:= .dK ((kvs.map fun kv=>(Sum.inl kv.1:Key)).zip (qs.map (·.2)))) (h':=h') (t':=t') kp (Nat.le_refl _) ⟨by rw[List.length_zip,List.length_map,List.length_map];omega,beq_eq_false_iff_ne.mpr (Ne.symm (Nat.ne_of_lt big)),dlK ps,kv_of p1 p2,dd⟩
  have ext:Ext H (upd H s.heap.objs.size (.dK ((kvs.map fun kv=>(Sum.inl kv.1:Key)).zip (qs.map (·.2))))):= .upd (.none fr)
  exact⟨.ref _,_,_,ext,⟨σ,I3,hs.mono ext,hg.upd (.none fr) (go:= .dck (kvs.map fun kv=>(.inl kv.1,kv.2))) ⟨_,jJ8,(qQ2 r2).mono ext⟩⟩,⟨.ref _,rfl,rfl⟩,q _ (hg.fresh fr)⟩
end
section
variable {X:Cx}
end
mutual
inductive RdG (G:Gp):T->PyData->Prop
 | non:RdG G .non .none
 | bl (b:Bool):RdG G (.bl b) (.bool b)
 | int (i:Int):RdG G (.int i) (.int i)
 | str (x:Str):RdG G (.str x) (.str x)
 | tup {xs:List T} {ds:List PyData}:RdGs G xs ds->RdG G (.tup xs) (.tuple ds)
 | lst {p:Addr} {xs:List T} {ds:List PyData}:G p=some (.lst xs)->RdGs G xs ds->RdG G (.ref p) (.list ds)
inductive RdGs (G:Gp):List T->List PyData->Prop
 | nil:RdGs G [] []
 | cons {x:T} {d:PyData} {xs:List T} {ds:List PyData}:RdG G x d->RdGs G xs ds->RdGs G (x::xs) (d::ds)
end
section
variable {X:Cx}
mutual
theorem kQy {pins:List (Addr×Obj)} {σ:L2.St} {H:Hp} {s:Shared} {G:Gp} (I:Inv X pins σ H s) (hg:GRel X.K H G):∀ {x:T} {d:PyData} {a:V} {u:Value},RdG G x d->Rep X.K H x a->RelV a u->∃as,Reads s.heap u d as
 | _,_,a,u,.non,r,q=>by cases (show a= .non from r);cases q;exact⟨_,.none⟩
 | _,_,a,u,.bl b,r,q=>by cases (show a= .bl b from r);cases q;exact⟨_,.bool b⟩
 | _,_,a,u,.int b,r,q=>by cases (show a= .int b from r);obtain⟨t,rfl⟩:=q;exact⟨_,.int b t⟩
 | _,_,a,u,.str b,r,q=>by cases (show a= .str b from r);obtain⟨t,rfl⟩:=q;exact⟨_,.str b t⟩
 | .tup xs,_,a,u,.tup h,r,q=>by
  obtain⟨p,vs,e1,h1,h2⟩:=(show ∃p vs,a= .ref p/\H p=some (.tup vs)/\Reps X.K H xs vs from r)
  subst e1;cases q
  obtain⟨its,rv,⟨o,ho,hc,n,hd⟩,_⟩:=I.tuple (.of h1)
  obtain⟨as,ra⟩:=kJw I hg h h2 rv
  exact⟨_,.tuple ho hc hd (by simpa using ra)⟩
 | .ref p,_,a,u,.lst hp h,r,q=>by
  cases (show a= .ref p from r);cases q
  obtain⟨vs,h1,h2⟩:=hg.lst hp
  obtain⟨its,rv,⟨o,n,ho,hc,_,hd⟩,_⟩:=I.list (.of h1)
  obtain⟨as,ra⟩:=kJw I hg h h2 rv
  exact⟨_,.list ho hc hd (by simpa using ra)⟩
theorem kJw {pins:List (Addr×Obj)} {σ:L2.St} {H:Hp} {s:Shared} {G:Gp} (I:Inv X pins σ H s) (hg:GRel X.K H G):∀ {xs:List T} {ds:List PyData} {vs:List V} {us:List Value},RdGs G xs ds->Reps X.K H xs vs->Vals vs us->∃as,ReadsAll s.heap us ds as
 | _,_,_,_,.nil,r,q=>by cases r;cases q;exact⟨_,.nil⟩
 | _,_,_,_,.cons h hs,⟨v,ws,e,r1,r2⟩,q=>by
  subst e
  cases q with
  | cons q1 q2=>
   obtain⟨as,ra⟩:=kQy I hg h r1 q1
   obtain⟨bs,rb⟩:=kJw I hg hs r2 q2
   exact⟨_,.cons ra rb⟩
end
def rNeD:R3:=fun x y G Q=>∃dx dy,RdG G x dx/\RdG G y dy/\dx.canLay0=true/\dy.canLay0=true/\dx.depth<=50/\Q (.bl (!PyData.eqv dx dy)) G
theorem o_neD (hu:X.A.units+64<cLine):Op3 X (compareOp .NotEq) rNeD:=by
 rintro pins s τ G H x y v u Q ⟨σ,I,hs,hg⟩ ⟨a,ra,rv⟩ ⟨b,rb,ru⟩ ⟨dx,dy,h1,h2,c1,c2,d,q⟩
 obtain⟨as,r1⟩:=kQy I hg h1 ra rv
 obtain⟨bs,r2⟩:=kQy I hg h2 rb ru
 exact SeqAt.compareNe_reads r1 r2 c1 c2 (by omega) ⟨.bl (!PyData.eqv dx dy),G,H,.refl H,⟨σ,I,hs,hg⟩,⟨.bl (!PyData.eqv dx dy),rfl,rfl⟩,q⟩
end
section
variable {A:Around} {E:Value->Shared->Prop} {s:Shared} {M:Model}
end
section
variable {X:Cx} {scope:Scope} {cl:List (Str×Addr)} {mask:List Bool}
end
section
variable {X:Cx} {scope:Scope} {cl:List (Str×Addr)} {mask:List Bool} {elt iter tg:Expr} {ifs:List Expr} {pos:Pos} {wi:TI3} {g:TG3} {tif:TT3} {te:TE3}
end
end L3
namespace W
open PySem L3
local macro_rules
 | `(tactic| wp_walk using 1, $ts,*) => do
  let ls ← ts.getElems.mapM fun t => `(Lean.Parser.Tactic.simpLemma| $t:term)
  let ns ← ("tSeq tIfS jJw tOp rGt rLt rGe rSub L3.rI0 L3.rI rIxF tVar tC tAsg tCB jJb tNil qUv rLen rAbs rMax kU9 gTup jVc gNil gSub jJi jY8 tRet tRetN jKn jKb jJt tLst tTup tIf tNot tAnd tOr kJo tOrV qUk tPar jKw jU7 rMod kJ0 rPow rIsN rNotN qVl tTru rTru truT tUn rNeg qQs qKx qKz qKy qVp qVq qVd qVe at0 at1 at2 ix30 ix31 ix32 qJ6 qJ4 qVf qJ7 Option.map_some and_assoc T.int.injEq T.bl.injEq T.tup.injEq T.ref.injEq List.cons.injEq and_true true_and exists_eq_left exists_eq_left' exists_and_left exists_eq_right List.getElem?_cons_zero List.getElem?_cons_succ List.set_cons_zero List.set_cons_succ List.length_cons List.length_nil Nat.reduceAdd Option.some.injEq jJe jXv reduceCtorEq false_and exists_false exists_const Bool.true_eq Bool.not_eq_true' Bool.not_true Bool.not_false if_true if_false decide_eq_true_eq tBM jKc jXp jJ5 qJ2 jUy GO.lst.injEq msk List.zipWith_cons_cons List.zipWith_nil_left List.zipWith_nil_right Bool.false_eq_true qUi".splitOn " ").toArray.mapM fun n => `(Lean.Parser.Tactic.simpLemma| $(Lean.mkIdent n.toName):term)
  let al:=ns++ls
  `(tactic| ((try dsimp only [$al,*]); (try simp only [$al,*])))
local macro_rules
 | `(tactic| omega) => `(tactic| first | exact szle rfl | lia)
def Keep (b:Addr) (G G':Gp):Prop:=∀c o,c≠b->G c=some o->G' c=some o
theorem Keep.refl (b:Addr) (G:Gp):Keep b G G:=fun _ _ _ h=>h
theorem Keep.trans {b:Addr} {G G1 G2:Gp} (h:Keep b G G1) (h':Keep b G1 G2):Keep b G G2:=fun c o hc e=>h' c o hc (h c o hc e)
theorem Keep.gup {b:Addr} {G:Gp} {o:GO}:Keep b G (gup G b o):=fun c u hc e=>by rw[jJh hc];exact e
theorem Keep.new {b p:Addr} {G:Gp} {o:GO} (hp:G p=none):Keep b G (L3.gup G p o):=fun c u _ e=>by rw[jJh];exact e;rintro rfl;rw[hp] at e;cases e
abbrev jJu (ns:List Int):List T:=ns.map T.int
theorem sz:sizeLine=16777216:=PySem.sizeLine_eq
abbrev Web:=List (List (Nat×Nat))
def encE (e:Nat×Nat):T:= .tup [.int e.1,.int e.2]
def encR (r:List (Nat×Nat)):T:= .tup (r.map encE)
def encW (W:Web):T:= .tup (W.map encR)
def en (W:Web) (r i:Nat):Option (Nat×Nat):=(W[r]?).bind fun es=>es[i]?
def Sym (W:Web):Prop:=∀r i s j,en W r i=some (s,j)->en W s j=some (r,i)
def sw:Nat->Nat
 | 0=>1
 | 1=>0
 | n=>n
noncomputable def RowsAt (G:Gp) (h:Addr) (Hs:Web) (rs:List Addr):Prop:=G h=some (.lst (rs.map T.ref))/\rs.length=Hs.length/\∀(i:Nat) (r:Addr),rs[i]? =some r->∃hs:List (Nat×Nat),Hs[i]? =some hs/\G r=some (.lst (hs.map encE))
theorem RowsAt.sub {G G':Gp} {h:Addr} {Hs:Web} {rs:List Addr} (s:Sub G G') (x:RowsAt G h Hs rs):RowsAt G' h Hs rs:=⟨s _ _ x.1,x.2.1,fun i r e=>let ⟨hs,h1,h2⟩:=x.2.2 i r e;⟨hs,h1,s _ _ h2⟩⟩
def keyE (e:Nat×Nat):L2.TKey:=[.inl (.inl (e.1:Int)),.inl (.inl (e.2:Int))]
theorem kVg {a b:Nat×Nat} (h:keyE a=keyE b):a=b:=by
 obtain⟨a1,a2⟩:=a;obtain⟨b1,b2⟩:=b
 simp only[keyE,List.cons.injEq,Sum.inl.injEq,and_true] at h
 obtain⟨h1,h2⟩:=h
 rw[Int.ofNat.inj h1,Int.ofNat.inj h2]
theorem jXt {a b:Int}:jV9 [.int a,.int b]=some [.inl (.inl a),.inl (.inl b)]:=rfl
theorem kUv {κ:Type} [DecidableEq κ] (kvs:List (κ×T)) (k j:κ) (v:T):valT (putT kvs k v) j=if k=j then some v else valT kvs j:=by
 unfold putT valT
 by_cases h:(kvs.any fun kv=>decide (kv.1=k))=true
 ·rw[if_pos h]
  induction kvs with
  | nil=>simp at h
  | cons p ps ih=>
   rw[List.map_cons,List.find?_cons,List.find?_cons]
   by_cases hp:p.1=k
   ·rw[if_pos hp]
    by_cases hj:k=j
    ·simp[hp,hj]
    ·have h1:¬ p.1=j:=fun z=>hj (hp.symm.trans z)
     simp only[h1,decide_false,hj,if_false]
     by_cases h2:(ps.any fun kv=>decide (kv.1=k))=true
     ·have:=ih h2;rw[if_neg hj] at this;exact this
     ·have hm:ps.map (fun kv=>if kv.1=k then (kv.1,v) else kv)=ps:=by
       rw[List.map_congr_left (g:=id)];· simp
       intro a ha
       have:¬ a.1=k:=fun z=>h2 (List.any_eq_true.mpr ⟨a,ha,by simp[z]⟩)
       simp[this]
      rw[hm]
   ·rw[if_neg hp]
    have h2:(ps.any fun kv=>decide (kv.1=k))=true:=by
     rw[List.any_cons,decide_eq_false hp,Bool.false_or] at h;exact h
    have:=ih h2
    by_cases hj:p.1=j
    ·have:¬ k=j:=fun z=>hp (hj.trans z.symm)
     simp[hj,this]
    ·simp only[hj,decide_false];exact this
 ·rw[if_neg h,List.find?_append]
  have hn:(kvs.find? fun kv=>decide (kv.1=j))=none\/∃p,(kvs.find? fun kv=>decide (kv.1=j))=some p:=by
   cases kvs.find? fun kv=>decide (kv.1=j) with
   | none=>exact .inl rfl
   | some p=>exact .inr ⟨p,rfl⟩
  by_cases hj:k=j
  ·subst hj
   have:(kvs.find? fun kv=>decide (kv.1=k))=none:=by
    rw[List.find?_eq_none]
    intro a ha z
    exact h (List.any_eq_true.mpr ⟨a,ha,z⟩)
   simp[this]
  ·rcases hn with e | ⟨p,e⟩
   ·simp[e,hj]
   ·simp[e,hj]
theorem qKn {κ:Type} [DecidableEq κ] (kvs:List (κ×T)) (k:κ) (v:T):(putT kvs k v).length<=kvs.length+1:=by
 unfold putT;split<;>simp
theorem qJc {G:Gp} {p:Addr} {kvs:List (L2.TKey×T)} {ys:List T} {ks:L2.TKey} (h:G p=some (.dct kvs)) (hk:jV9 ys=some ks):dAt G (.ref p) (.tup ys)=some (valT kvs ks):=by simp only[dAt,h,hk]
theorem qVg {G:Gp} {p:Addr} {kvs:List (L2.TKey×T)} {ys:List T} {ks:L2.TKey} {t:T} (h:G p=some (.dct kvs)) (hk:jV9 ys=some ks) (ht:valT kvs ks=some t):ixR G (.ref p) (.tup ys)=some t:=by
 simp only[ixR,seqT,h,asL,qJc h hk,ht]
theorem qJ5 {G:Gp} {p:Addr} {kvs:List (L2.TKey×T)} {ys:List T} {ks:L2.TKey} {v:T} (h:G p=some (.dct kvs)) (hk:jV9 ys=some ks) (hz:kvs.length<sizeLine):setR G (.ref p) (.tup ys) v=some (gup G p (.dct (putT kvs ks v))):=by
 simp only[setR,h,hk,hz,if_true]
theorem jUt {W:Web} {r i:Nat} {e:Nat×Nat} (h:en W r i=some e):∃es,W[r]? =some es/\es[i]? =some e:=by
 unfold en at h
 cases e1:W[r]? with
 | none=>rw[e1] at h;cases h
 | some es=>rw[e1] at h;exact⟨es,rfl,h⟩
theorem jZn {W:Web} {r i:Nat} {es:List (Nat×Nat)} {e:Nat×Nat} (h1:W[r]? =some es) (h2:es[i]? =some e):en W r i=some e:=by unfold en;rw[h1];exact h2
open Classical in
def oth (Hs:Web) (e:Nat×Nat):Nat×Nat:=if h:∃p:Nat×Nat,en Hs p.1 p.2=some (e.1,sw e.2) then h.choose else (0,0)
theorem qKc {n i:Nat} {x:T} (h:(rngT 0 n)[i]? =some x):i<n/\x= .int i:=by
 unfold rngT at h
 rw[List.getElem?_map] at h
 have hi:i<n:=by
  rcases Nat.lt_or_ge i n with z | z
  ·exact z
  ·rw[List.getElem?_eq_none (by simpa using z)] at h;cases h
 simp[hi] at h
 exact⟨hi,h.symm⟩
theorem jVd {n:Nat}:(rngT 0 n).length=n:=by simp[rngT]
theorem Keep.sub {b:Addr} {G G':Gp} (h:Sub G G'):Keep b G G':=fun c o _ e=>h c o e
theorem RowsAt.keep {b:Addr} {G G':Gp} {h:Addr} {Hs:Web} {rs:List Addr} (s:Keep b G G') (hb:b∉h::rs) (x:RowsAt G h Hs rs):RowsAt G' h Hs rs:=by
 simp only[List.mem_cons,not_or] at hb
 exact⟨s _ _ (Ne.symm hb.1) x.1,x.2.1,fun i r e=>let ⟨hs,h1,h2⟩:=x.2.2 i r e;⟨hs,h1,s _ _ (by rintro rfl;exact hb.2 (List.mem_of_getElem? e)) h2⟩⟩
theorem RowsAt.set {G:Gp} {h:Addr} {Hs:Web} {rs:List Addr} {r:Nat} {a:Addr} {hs':List (Nat×Nat)} (x:RowsAt G h Hs rs) (hn:(h::rs).Nodup) (hr:rs[r]? =some a):RowsAt (gup G a (.lst (hs'.map encE))) h (Hs.set r hs') rs:=by
 rw[List.nodup_cons] at hn
 have hrl:r<rs.length:=(List.getElem?_eq_some_iff.mp hr).1
 refine⟨by rw[jJh];exact x.1;rintro rfl;exact hn.1 (List.mem_of_getElem? hr),by rw[List.length_set];exact x.2.1,fun i c e=> ?_⟩
 by_cases hi:i=r
 ·subst hi
  rw[hr] at e;cases e
  exact⟨hs',by rw[List.getElem?_set_self];rw[<-x.2.1];exact hrl,jJe⟩
 ·obtain⟨hs,h1,h2⟩:=x.2.2 i c e
  refine⟨hs,by rw[List.getElem?_set_ne (Ne.symm hi)];exact h1,?_⟩
  rw[jJh];exact h2
  rintro rfl
  have hil:i<rs.length:=(List.getElem?_eq_some_iff.mp e).1
  exact hi ((List.getElem?_inj hil hn.2).mp (e.trans hr.symm))
def hv (n t:Nat) (p:Nat×Nat):List (Nat×Nat×Nat):=if p.2=n then [(p.1,t,2)] else [(p.1,t,0),(p.2,t,1)]
structure HalfL (L:List (Nat×Nat×Nat)) (n:Nat) (Hs:Web):Prop where
 len:Hs.length=n
 perm:∀(r:Nat) (hs:List (Nat×Nat)),Hs[r]? =some hs->hs.Perm ((L.filter fun x=>x.1 == r).map fun x=>x.2)
theorem ins_perm {α:Type} {xs:List α} {k:Nat} {y:α}:(xs.take k++y::xs.drop k).Perm (xs++[y]):=by
 have h1:(xs.take k++y::xs.drop k).Perm (y::(xs.take k++xs.drop k)):=List.perm_middle
 rw[List.take_append_drop] at h1
 exact h1.trans (List.perm_append_comm (l₁:=[y]) (l₂:=xs))
theorem HalfL.ins {L:List (Nat×Nat×Nat)} {n:Nat} {Hs:Web} {r k:Nat} {hs:List (Nat×Nat)} {e:Nat×Nat} (h:HalfL L n Hs) (hr:Hs[r]? =some hs):HalfL (L++[(r,e)]) n (Hs.set r (hs.take k++e::hs.drop k)) where
 len:=by rw[List.length_set];exact h.len
 perm:=fun r' hs' h'=>by
  have hrl:r<Hs.length:=(List.getElem?_eq_some_iff.mp hr).1
  rw[List.filter_append,List.map_append]
  by_cases hi:r'=r
  ·subst hi
   rw[List.getElem?_set_self hrl] at h'
   cases h'
   have:=h.perm r' hs hr
   refine ins_perm.trans ?_
   simp
   exact this.append_right [e]
  ·rw[List.getElem?_set_ne (Ne.symm hi)] at h'
   have:=h.perm r' hs' h'
   have hne:¬ r=r':=fun z=>hi z.symm
   simp[hne]
   exact this
theorem HalfL.mem {L:List (Nat×Nat×Nat)} {n:Nat} {Hs:Web} {r i:Nat} {e:Nat×Nat} (h:HalfL L n Hs) (he:en Hs r i=some e):(r,e)∈L:=by
 obtain⟨es,h1,h2⟩:=jUt he
 have:=(h.perm r es h1).mem_iff.mp (List.mem_of_getElem? h2)
 obtain⟨⟨r',e'⟩,h3,rfl⟩:=List.mem_map.mp this
 obtain⟨h4,h5⟩:=List.mem_filter.mp h3
 have:r'=r:=by simpa using h5
 subst this;exact h4
theorem HalfL.of {L:List (Nat×Nat×Nat)} {n:Nat} {Hs:Web} {r:Nat} {e:Nat×Nat} (h:HalfL L n Hs) (hr:r<n) (he:(r,e)∈L):∃i,en Hs r i=some e:=by
 have hrl:r<Hs.length:=by rw[h.len];exact hr
 have h1:Hs[r]? =some Hs[r]:=List.getElem?_eq_getElem hrl
 have:e∈Hs[r]:=(h.perm r _ h1).mem_iff.mpr (List.mem_map.mpr ⟨(r,e),List.mem_filter.mpr ⟨he,by simp⟩,rfl⟩)
 obtain⟨i,hi⟩:=List.getElem?_of_mem this
 exact⟨i,jZn h1 hi⟩
theorem kJ6 {xs:List (Nat×Nat)} {k:Nat} {y:Nat×Nat}:insT (xs.map encE) k (encE y)=(xs.take k++y::xs.drop k).map encE:=by simp[insT,List.map_take,List.map_drop]
theorem qKv {xs:List T}:(numT xs).length=xs.length:=by simp[numT]
theorem kJu {n:Nat}:rngT 0 n=(List.range n).map fun (k:Nat)=>T.int k:=by simp[rngT]
theorem qQh {L:List (Nat×Nat×Nat)} {k:Nat}:(L.filter fun x=>decide (x.1<k+1)).length=(L.filter fun x=>decide (x.1<k)).length+(L.filter fun x=>x.1 == k).length:=by
 induction L with
 | nil=>rfl
 | cons a as ih=>
  rw[List.filter_cons,List.filter_cons,List.filter_cons]
  rcases Nat.lt_trichotomy a.1 k with h | h | h
  ·have h1:a.1<k+1:=by omega
   have h2:¬ a.1=k:=by omega
   simp[h,h1,h2,ih];omega
  ·have h1:a.1<k+1:=by omega
   simp[h,ih];omega
  ·have h1:¬ a.1<k+1:=by omega
   have h2:¬ a.1=k:=by omega
   have h3:¬ a.1<k:=by omega
   simp[h1,h2,h3,ih]
theorem qQ3 {L:List (Nat×Nat×Nat)} {d:Nat}:∀k,(∀r,r<k->d<=(L.filter fun x=>x.1 == r).length)->k*d<=(L.filter fun x=>decide (x.1<k)).length
 | 0,_=>by simp
 | k+1,h=>by
  rw[qQh,Nat.succ_mul]
  have h1:=qQ3 k fun r hr=>h r (by omega)
  have h2:=h k (by omega)
  omega
structure WebOk (n d:Nat) (W:Web):Prop where
 len:W.length=n
 sym:Sym W
 deg:∀(r:Nat) (es:List (Nat×Nat)),W[r]? =some es->es.length<=d
 low:∀r,1<=r->r<n->∃i a j,en W r i=some (a,j)/\a<r
theorem jY1 {lo n:Nat}:rngT lo n=(List.range n).map fun (k:Nat)=>T.int ((lo+k:Nat):Int):=by simp[rngT]
theorem kZs {es:List Nat}:(es.map fun e=>T.int (e:Nat)).all jVy=true:=by
 rw[List.all_map,List.all_eq_true];intros;rfl
theorem kQl {α:Type} {f:α->Bool}:∀ {es:List α},kUm (es.map fun e=>T.bl (f e))=some (es.all f)
 | []=>rfl
 | e::es=>by rw[List.map_cons,kUm,kQl,List.all_cons]
def Conn (W:Web):Prop:=∀S:Nat->Prop,S 0->(∀r i s j,S r->en W r i=some (s,j)->S s)->∀r,r<W.length->S r
theorem WebOk.conn {n d:Nat} {W:Web} (h:WebOk n d W):Conn W:=by
 intro S h0 hst r
 induction r using Nat.strongRecOn with
 | ind r ih=>
  intro hr
  by_cases hz:r=0
  ·subst hz;exact h0
  ·obtain⟨i,a,j,q1,q2⟩:=h.low r (by omega) (by rw[<-h.len];exact hr)
   exact hst a j r i (ih a q2 (by omega)) (h.sym _ _ _ _ q1)
theorem kZ4 {W:Web} {r i:Nat} {e:Nat×Nat} (h:en W r i=some e):r<W.length:=by
 obtain⟨es,h1,h2⟩:=jUt h
 exact (List.getElem?_eq_some_iff.mp h1).1
def ring (n:Nat):Web:=(List.range n).map fun r=>[((r+1)%n,1),((r+n-1)%n,0)]
theorem kVr {n r:Nat} (h:r<n):en (ring n) r 0=some ((r+1)%n,1):=jZn (es:=[((r+1)%n,1),((r+n-1)%n,0)]) (by simp[ring,h]) rfl
theorem kKb {n r:Nat} (h:r<n):en (ring n) r 1=some ((r+n-1)%n,0):=jZn (es:=[((r+1)%n,1),((r+n-1)%n,0)]) (by simp[ring,h]) rfl
theorem jYc {n:Nat}:(ring n).length=n:=by simp[ring]
theorem kJv {n:Nat} (hn:1<=n):WebOk n 2 (ring n) where
 len:=jYc
 sym:=by
  intro r i s j h
  have hr:r<n:=by have:=kZ4 h;rwa [jYc] at this
  have hi:i=0\/i=1:=by
   obtain⟨es,h1,h2⟩:=jUt h
   have:es=[((r+1)%n,1),((r+n-1)%n,0)]:=by simp[ring,hr] at h1;exact h1.symm
   subst this
   have:=(List.getElem?_eq_some_iff.mp h2).1
   simp at this;omega
  rcases hi with rfl | rfl
  ·rw[kVr hr] at h;cases h
   rw[kKb (Nat.mod_lt _ (by omega))]
   congr 2
   by_cases hz:r+1=n
   ·rw[hz,Nat.mod_self];rw[Nat.mod_eq_of_lt (by omega)];omega
   ·rw[Nat.mod_eq_of_lt (show r+1<n by omega),show r+1+n-1=r+n by omega,Nat.add_mod_right,Nat.mod_eq_of_lt hr]
  ·rw[kKb hr] at h;cases h
   rw[kVr (Nat.mod_lt _ (by omega))]
   congr 2
   by_cases hz:r=0
   ·subst hz;rw[Nat.mod_eq_of_lt (show 0+n-1<n by omega),show 0+n-1+1=n by omega,Nat.mod_self]
   ·rw[show r+n-1=(r-1)+n by omega,Nat.add_mod_right,Nat.mod_eq_of_lt (show r-1<n by omega),show r-1+1=r by omega,Nat.mod_eq_of_lt hr]
 deg:=fun r es hr=>by
  have hrl:r<n:=by have:=(List.getElem?_eq_some_iff.mp hr).1;rwa [jYc] at this
  simp[ring,hrl] at hr;rw[<-hr];simp
 low:=fun r h1 h2=>⟨1,r-1,0,by rw[kKb h2,show r+n-1=(r-1)+n by omega,Nat.add_mod_right,Nat.mod_eq_of_lt (show r-1<n by omega)],by omega⟩
structure Fine (W:Web):Prop where
 len:W.length<=1000
 row:∀(r:Nat) (es:List (Nat×Nat)),W[r]? =some es->es.length<=1000
 rng:∀r i s j,en W r i=some (s,j)->s<W.length
theorem kKa {W:Web} {r:Nat} {es:List (Nat×Nat)} (h:W[r]? =some es):L2.atI (W.map encR) (r:Int)=some (encR es):=by rw[atN];simp[h]
theorem qVt {es:List (Nat×Nat)} {i:Nat} {e:Nat×Nat} (h:es[i]? =some e):L2.atI (es.map encE) (i:Int)=some (encE e):=by rw[atN];simp[h]
theorem jQr {n k:Nat} {x:T} (h:(rngT 0 n)[k]? =some x):k<n/\x= .int (k:Nat):=qKc h
def jJn (F:List Nat):List T:=F.map fun e=>T.int (e:Nat)
theorem qQa {F:List Nat} {r:Nat}:inT (.int r) (jJn F)=F.contains r:=by
 unfold inT jJn
 rw[List.any_map,List.contains_eq_any_beq]
 congr 1
 funext e
 simp only[Function.comp,eqT]
 by_cases h:e=r
 ·subst h;simp
 ·have h2:¬ (e:Int)=r:=by omega
  have h3:¬ r=e:=fun z=>h z.symm
  rw[beq_eq_false_iff_ne.mpr h3,beq_eq_false_iff_ne.mpr h2]
theorem qQb {G:Gp} {p:Addr} {F:List Nat} {r:Nat} (h:G p=some (.lst (jJn F))):inR G (.int r) (.ref p)=some (F.contains r):=by
 unfold inR
 rw[jJm h]
 show (if _ then _ else _)=_
 rw[if_pos ⟨rfl,kZs⟩,qQa]
theorem jQ0:∀ {n:Nat} {F:List Nat} (hn:F.Nodup) (hl:∀x,x∈F->x<n),F.length<=n
 | 0,F,hn,hl=>by
  cases F with
  | nil=>exact Nat.le_refl _
  | cons a as=>exact absurd (hl a (List.mem_cons_self)) (Nat.not_lt_zero _)
 | n+1,F,hn,hl=>by
  have h1:=jQ0 (n:=n) (hn.erase n) (fun x hx=>by
   rw[hn.mem_erase_iff] at hx
   have:=hl x hx.2;omega)
  by_cases h:n∈F
  ·rw[List.length_erase_of_mem h] at h1;omega
  ·rw[List.erase_of_not_mem h] at h1;omega
def Closed (W:Web) (S:Nat->Prop):Prop:=∀r i s j,S r->en W r i=some (s,j)->S s
structure Found (W:Web) (r0:Nat) (F:List Nat):Prop where
 nd:F.Nodup
 lt:∀x,x∈F->x<W.length
 got:∀S,S r0->Closed W S->∀x,x∈F->S x
def vis (F:List Nat) (es:List (Nat×Nat)):List Nat:=es.foldl (fun F e=>if F.contains e.1=true then F else F++[e.1]) F
def row (W:Web) (r:Nat):List (Nat×Nat):=(W[r]?).getD []
theorem jVi {W:Web} {r:Nat} {es:List (Nat×Nat)} (h:W[r]? =some es):row W r=es:=by unfold row;rw[h];rfl
theorem kUs {F:List Nat} {es:List (Nat×Nat)} {j:Nat} {e:Nat×Nat} (h:es[j]? =some e):vis F (es.take (j+1))=if (vis F (es.take j)).contains e.1=true then vis F (es.take j) else vis F (es.take j)++[e.1]:=by
 unfold vis
 rw[List.take_succ,h,List.foldl_append];rfl
def bfsN (W:Web):Nat->Nat->List Nat->List Nat
 | 0,_,F=>F
 | n+1,k,F=>match F[k]? with
  | some r=>bfsN W n (k+1) (vis F (row W r))
  | none=>F
def bfs (W:Web) (r:Nat):List Nat:=bfsN W W.length 0 [r]
theorem jZr {W:Web} {n k:Nat} {F:List Nat} (h:F.length<=k):bfsN W n k F=F:=by
 cases n with
 | zero=>rfl
 | succ n=>rw[bfsN,List.getElem?_eq_none h]
theorem jZq {W:Web} {n k r:Nat} {F:List Nat} (h:F[k]? =some r):bfsN W (n+1) k F=bfsN W n (k+1) (vis F (row W r)):=by rw[bfsN,h]
def cl (M:List (List T)) (x i:Nat):Option T:=(M[x]?).bind fun ts=>ts[i]?
def put (M:List (List T)) (x i:Nat) (v:T):List (List T):=match M[x]? with
 | some ts=>M.set x (ts.set i v)
 | none=>M
theorem kUh {G:Gp} {a c:Nat}:eqG G (.int a) (.int c)=some (decide (a=c)):=by
 rw[show eqG G (.int a) (.int c)=some (eqT (.int a) (.int c)) from rfl]
 congr 1
 simp only[eqT]
 by_cases h1:a=c
 ·simp[h1]
 ·have:¬ (a:Int)=c:=by omega
  simp[h1,this]
structure AnyWeb (W:Web):Prop where
 pos:1<=W.length
 len:W.length<=24
 sym:Sym W
 deg:∀(r:Nat) (es:List (Nat×Nat)),W[r]? =some es->es.length<=6
 conn:Conn W
theorem WebOk.any {n d:Nat} {W:Web} (h:WebOk n d W) (h1:1<=n) (h2:n<=24) (h3:d<=6):AnyWeb W:=⟨by rw[h.len];exact h1,by rw[h.len];exact h2,h.sym,fun r es hr=>Nat.le_trans (h.deg r es hr) h3,h.conn⟩
theorem AnyWeb.fine {W:Web} (h:AnyWeb W):Fine W:=⟨by have:=h.len;omega,fun r es hr=>by have:=h.deg r es hr;omega,fun r i s j he=>kZ4 (h.sym _ _ _ _ he)⟩
structure WS where
 rm:Nat
 cm:Option Nat
 hd:Nat
 ly:List Int
 wk:Nat
def cmT:Option Nat->T
 | none=> .non
 | some d=> .int (d:Nat)
def wfs (W:Web) (l:Addr) (s:WS):List (Str×T):=[("web",encW W),("room",.int (s.rm:Nat)),("came",cmT s.cm),("held",.int (s.hd:Nat)),("lying",.ref l),("walked",.int (s.wk:Nat))]
def wkG (W:Web) (l:Addr) (s:WS):GO:= .ins "Walker" (wfs W l s)
theorem kK6 {m:Str}:∀ {fs:List (Str×T)},(∀g,g∈fs.map (·.1)->¬ g=m)->fldT m fs=none
 | [],_=>rfl
 | (g,x)::r,h=>by
  rw[fldT,if_neg (h g (by simp))]
  exact kK6 fun g' hg=>h g' (by rw[List.map_cons];exact List.mem_cons_of_mem _ hg)
theorem jK4 {G:Gp} {a l:Addr} {V:Web} {s:WS} {m:Str} (h:G a=some (wkG V l s)) (hm:∀g,g∈(["web","room","came","held","lying","walked"]:List Str)->¬ g=m:=by decide +kernel):obR "Walker" m G (.ref a)=true:=by
 simp only[obR,h,wkG,kK6 (fs:=wfs V l s) hm,Option.isNone_none,decide_true,Bool.and_true]
theorem q1:(("web":Str)="room")=False:=eq_false (by decide +kernel)
theorem q2:(("web":Str)="came")=False:=eq_false (by decide +kernel)
theorem q3:(("web":Str)="held")=False:=eq_false (by decide +kernel)
theorem q4:(("web":Str)="lying")=False:=eq_false (by decide +kernel)
theorem q5:(("web":Str)="walked")=False:=eq_false (by decide +kernel)
theorem q6:(("room":Str)="came")=False:=eq_false (by decide +kernel)
theorem q7:(("room":Str)="held")=False:=eq_false (by decide +kernel)
theorem q8:(("room":Str)="lying")=False:=eq_false (by decide +kernel)
theorem q9:(("room":Str)="walked")=False:=eq_false (by decide +kernel)
theorem q10:(("came":Str)="held")=False:=eq_false (by decide +kernel)
theorem q11:(("came":Str)="lying")=False:=eq_false (by decide +kernel)
theorem q12:(("came":Str)="walked")=False:=eq_false (by decide +kernel)
theorem q13:(("held":Str)="lying")=False:=eq_false (by decide +kernel)
theorem q14:(("held":Str)="walked")=False:=eq_false (by decide +kernel)
theorem q15:(("lying":Str)="walked")=False:=eq_false (by decide +kernel)
section
variable {G:Gp} {a l:Addr} {W:Web} {s:WS}
theorem fl {f:Str} {v:T} (h:G a=some (wkG W l s)) (hf:fldT f (wfs W l s)=some v):fldR "Walker" f G (.ref a)=some v:=by
 simp only[fldR,h,wkG,if_true,hf]
theorem fWeb (h:G a=some (wkG W l s)):fldR "Walker" "web" G (.ref a)=some (encW W):=fl h (by simp only[wfs,fldT,if_true])
theorem kZv (h:G a=some (wkG W l s)):fldR "Walker" "room" G (.ref a)=some (.int (s.rm:Nat)):=fl h (by simp only[wfs,fldT,if_true,q1,if_false])
theorem fCame (h:G a=some (wkG W l s)):fldR "Walker" "came" G (.ref a)=some (cmT s.cm):=fl h (by simp only[wfs,fldT,if_true,q2,q6,if_false])
theorem qVr (h:G a=some (wkG W l s)):fldR "Walker" "held" G (.ref a)=some (.int (s.hd:Nat)):=fl h (by simp only[wfs,fldT,if_true,q3,q7,q10,if_false])
theorem kVm (h:G a=some (wkG W l s)):fldR "Walker" "lying" G (.ref a)=some (.ref l):=fl h (by simp only[wfs,fldT,if_true,q4,q8,q11,q13,if_false])
theorem kZu (h:G a=some (wkG W l s)):fldR "Walker" "walked" G (.ref a)=some (.int (s.wk:Nat)):=fl h (by simp only[wfs,fldT,if_true,q5,q9,q12,q14,q15,if_false])
theorem sf {f:Str} {v:T} {fs:List (Str×T)} (h:G a=some (wkG W l s)) (hf:jUv f v (wfs W l s)=fs):jYy "Walker" f G (.ref a) v=some (gup G a (.ins "Walker" fs)):=by
 simp only[jYy,h,wkG]
 rw[if_pos ⟨trivial,by simp[wfs]⟩,hf]
theorem pRoom {r:Nat} (h:G a=some (wkG W l s)):jYy "Walker" "room" G (.ref a) (.int (r:Nat))=some (gup G a (wkG W l {s with rm:=r})):=sf h (by simp only[wfs,jUv,if_true,q1,if_false])
theorem pCame {c:Nat} (h:G a=some (wkG W l s)):jYy "Walker" "came" G (.ref a) (.int (c:Nat))=some (gup G a (wkG W l {s with cm:=some c})):=sf h (by simp only[wfs,jUv,if_true,q2,q6,if_false,cmT])
theorem pHeld {n:Nat} {i:Int} (hi:i=(n:Nat)) (h:G a=some (wkG W l s)):jYy "Walker" "held" G (.ref a) (.int i)=some (gup G a (wkG W l {s with hd:=n})):=by
 subst hi;exact sf h (by simp only[wfs,jUv,if_true,q3,q7,q10,if_false])
theorem qUy {n:Nat} {i:Int} (hi:i=(n:Nat)) (h:G a=some (wkG W l s)):jYy "Walker" "walked" G (.ref a) (.int i)=some (gup G a (wkG W l {s with wk:=n})):=by
 subst hi;exact sf h (by simp only[wfs,jUv,if_true,q5,q9,q12,q14,q15,if_false])
end
def dg (W:Web) (r:Nat):Nat:=((W[r]?).getD []).length
def jXu (W:Web) (s:WS):T:= .tup [.int (dg W s.rm:Nat),cmT s.cm,.int (s.ly.count (s.rm:Int):Nat)]
def WkAt (G:Gp) (a l:Addr) (W:Web) (s:WS):Prop:=G a=some (wkG W l s)/\G l=some (.lst (jJu s.ly))
theorem WkAt.ne {G:Gp} {a l:Addr} {W:Web} {s:WS} (h:WkAt G a l W s):a≠l:=by
 rintro rfl
 have:=h.1.symm.trans h.2
 cases this
theorem kJg (r:Int):∀ly:List Int,(jJu ly).countP (fun z=>eqT z (.int r))=ly.count r
 | []=>rfl
 | a::l=>by
  rw[jJu,List.map_cons,List.countP_cons,List.count_cons]
  have:=kJg r l
  rw[jJu] at this
  rw[this]
  simp[eqT]
theorem kUg:∀ly:List Int,(jJu ly).all jVy=true
 | []=>rfl
 | _::l=>kUg l
abbrev RdOk (sp:Sp3) (rd:TS3) (N:List Str):Prop:=∀xs G Q,sp xs G Q->rd {nx:=fun _ G'=>Q .non G',rt:=Q} (jKj N xs) G
def jJo:Sp3:=fun xs G Q=>∃(a l:Addr) (W:Web) (s:WS),xs=[.ref a]/\WkAt G a l W s/\s.rm<W.length/\Q (jXu W s) G
def kKi:List Str:=["self"]
noncomputable def jQ8:TS3:=
 (tRet (tTup (jJb (tCB rLen (jJb (tOp rIxF (tFld "Walker" "web" (tVar 0)) (tFld "Walker" "room" (tVar 0))) tNil)) (jJb (tFld "Walker" "came" (tVar 0)) (jJb (tBM "list" kYu (tFld "Walker" "lying" (tVar 0)) (jJb (tFld "Walker" "room" (tVar 0)) tNil)) tNil)))))
theorem jX7:RdOk jJo jQ8 kKi:=by
 intro xs G Q h_;apply xe4 h_;clear h_;intro a l W s h_;apply ae3 h_;clear h_;intro h hr kk
 show jQ8 _ [some (.ref a)] G
 obtain⟨es,hes⟩:∃es,W[s.rm]? =some es:=⟨_,List.getElem?_eq_getElem hr⟩
 have hdg:dg W s.rm=es.length:=by rw[dg,hes];rfl
 wp_walk using 1,jQ8,tFld,fWeb h.1,kZv h.1,fCame h.1,kVm h.1,kYu,jKp h.2,h.2,encW,kKa hes,encR
 refine⟨rfl,kUg _,by rw[sz];omega,?_⟩
 rw[kJg,List.length_map,<-hdg]
 exact kk
def jJ4:Sp3:=fun xs G Q=>∃(a l:Addr) (W:Web) (s:WS),xs=[.ref a]/\WkAt G a l W s/\Q (.int (s.hd:Nat)) G
def jX8:List Str:=["self"]
noncomputable def jK9:TS3:=
 (tRet (tFld "Walker" "held" (tVar 0)))
theorem jVr:RdOk jJ4 jK9 jX8:=by
 intro xs G Q h_;apply xe4 h_;clear h_;intro a l W s h_;apply ae2 h_;clear h_;intro h kk
 show jK9 _ [some (.ref a)] G
 wp_walk using 1,jK9,tFld,qVr h.1
 exact kk
def jK2:Sp3:=fun xs G Q=>∃(a l:Addr) (W:Web) (s:WS),xs=[.ref a]/\WkAt G a l W s/\Q (.int (s.wk:Nat)) G
def jZ8:List Str:=["self"]
noncomputable def jQt:TS3:=
 (tRet (tFld "Walker" "walked" (tVar 0)))
theorem jXm:RdOk jK2 jQt jZ8:=by
 intro xs G Q h_;apply xe4 h_;clear h_;intro a l W s h_;apply ae2 h_;clear h_;intro h kk
 show jQt _ [some (.ref a)] G
 wp_walk using 1,jQt,tFld,kZu h.1
 exact kk
def goS (s:WS) (e:Nat×Nat):WS:={s with rm:=e.1,cm:=some e.2,wk:=s.wk+1}
theorem WkAt.gup {G:Gp} {a l:Addr} {W:Web} {s s':WS} (h:WkAt G a l W s) (e:s'.ly=s.ly):WkAt (gup G a (wkG W l s')) a l W s':=⟨jJe,by rw[jJh h.ne.symm,h.2,e]⟩
noncomputable def jJx:Sp3:=fun xs G Q=>∃(a l:Addr) (W:Web) (s:WS) (d:Nat) (e:Nat×Nat),xs=[.ref a,.int (d:Nat)]/\WkAt G a l W s/\Fine W/\en W s.rm d=some e/\Q (jXu W (goS s e)) (gup G a (wkG W l (goS s e)))
def kUp:List Str:=["self","door","end"]
noncomputable def jU6:TS3:=
 (tSeq (tIfS (tNot (jJw (kX4 rLeF rLt (tC (.int 0)) (tVar 1) (tCB rLen (jJb (tOp rIxF (tFld "Walker" "web" (tVar 0)) (tFld "Walker" "room" (tVar 0))) tNil))))) jYu jKn)
 (tSeq (tAsg (tOp rIxF (tOp rIxF (tFld "Walker" "web" (tVar 0)) (tFld "Walker" "room" (tVar 0))) (tVar 1)) (jJi 2))
 (tSeq (jVg "Walker" "room" (tVar 0) (tOp rIxF (tVar 2) (tC (.int 0))))
 (tSeq (jVg "Walker" "came" (tVar 0) (tOp rIxF (tVar 2) (tC (.int 1))))
 (tSeq (jVg "Walker" "walked" (tVar 0) (tOp jKw (tFld "Walker" "walked" (tVar 0)) (tC (.int 1))))
 (tRet (jJ0 "Walker" "here" jJo (tVar 0) tNil)))))))
theorem jZ0:RdOk jJx jU6 kUp:=by
 intro xs G Q h_;apply xe6 h_;clear h_;intro a l W s d e h_;apply ae4 h_;clear h_;intro h fine he kk
 show jU6 _ [some (.ref a),some (.int (d:Nat)),none] G
 obtain⟨es,hes,hd⟩:∃es,W[s.rm]? =some es/\es[d]? =some e:=by
  unfold en at he
  cases q:W[s.rm]? with
  | none=>rw[q] at he;cases he
  | some es=>rw[q] at he;exact⟨es,rfl,he⟩
 have hdl:d<es.length:=(List.getElem?_eq_some_iff.mp hd).1
 wp_walk using 1,jU6,tFld,kX4,rLeF,jYu,jVg,fWeb h.1,kZv h.1,encW,kKa hes,encR,List.length_map
 rw[if_pos (by omega),if_neg (by simp;omega)]
 refine⟨_,qVt hd,.int (e.1:Nat),rfl,_,pRoom h.1,.int (e.2:Nat),rfl,_,pCame jJe,_,kZu jJe,_,rfl,_,qUy (n:=s.wk+1) rfl jJe,?_⟩
 wp_walk using 1,jJ0
 refine⟨jK4 jJe,a,l,W,goS s e,rfl,h.gup rfl,fine.rng _ _ _ _ he,kk⟩
theorem jXd {G:Gp} {a c:Int}:eqG G (.int a) (.int c)=some (decide (a=c)):=by
 rw[show eqG G (.int a) (.int c)=some (eqT (.int a) (.int c)) from rfl]
 congr 1
def layS (s:WS):WS:={s with hd:=s.hd-1,ly:=s.ly++[(s.rm:Int)]}
noncomputable def jKt:Sp3:=fun xs G Q=>∃(a l:Addr) (W:Web) (s:WS),xs=[.ref a]/\WkAt G a l W s/\s.rm<W.length/\0<s.hd/\s.ly.length<1000/\Q (jXu W (layS s)) (gup (gup G a (wkG W l (layS s))) l (.lst (jJu (layS s).ly)))
def kQn:List Str:=["self"]
noncomputable def jUq:TS3:=
 (tSeq (tIfS (jJw (tOp rEqA (tFld "Walker" "held" (tVar 0)) (tC (.int 0)))) jYu jKn)
 (tSeq (jVg "Walker" "held" (tVar 0) (tOp rSub (tFld "Walker" "held" (tVar 0)) (tC (.int 1))))
 (tSeq (jKb (tBM "list" jKc (tFld "Walker" "lying" (tVar 0)) (jJb (tFld "Walker" "room" (tVar 0)) tNil)))
 (tRet (jJ0 "Walker" "here" jJo (tVar 0) tNil)))))
theorem jY3:RdOk jKt jUq kQn:=by
 intro xs G Q h_;apply xe4 h_;clear h_;intro a l W s h_;apply ae5 h_;clear h_;intro h hr hh hl kk
 show jUq _ [some (.ref a)] G
 have h2:(gup G a (wkG W l {s with hd:=s.hd-1})) l=some (.lst (jJu s.ly)):=by rw[jJh h.ne.symm];exact h.2
 have hs:=sz
 wp_walk using 1,jUq,tFld,jYu,jVg,rEqA,qVr h.1,jXd
 rw[if_neg (by simp;omega)]
 refine⟨_,pHeld (n:=s.hd-1) (by omega) h.1,_,kVm jJe,?_⟩
 wp_walk using 1,jKp h2,kZv jJe,h2
 refine⟨by rw[jJu,List.length_map];omega,?_⟩
 wp_walk using 1,jJ0
 have e1:jJu s.ly++[T.int (s.rm:Nat)]=jJu (layS s).ly:=by simp[layS,jJu]
 rw[e1]
 have ha:(gup (gup G a (wkG W l (layS s))) l (.lst (jJu (layS s).ly))) a=some (wkG W l (layS s)):=by rw[jJh h.ne,jJe]
 exact⟨jK4 ha,a,l,W,layS s,rfl,⟨ha,jJe⟩,hr,kk⟩
def jQi (s:WS):WS:={s with hd:=s.hd+1,ly:=match s.ly.idxOf? (s.rm:Int) with
 | some j=>s.ly.eraseIdx j
 | none=>s.ly}
theorem qQ7 {G:Gp} {l:Addr} {ly:List Int} {r:Int} (h:G l=some (.lst (jJu ly))):inR G (.int r) (.ref l)=some (decide (r∈ly)):=by
 have e:seqT G (.ref l)=some (jJu ly):=by simp only[seqT,h,asL]
 unfold inR
 rw[e]
 simp only
 rw[if_pos ⟨rfl,kUg ly⟩]
 congr 1
 clear e h
 induction ly with
 | nil=>rfl
 | cons a r' ih=>
  have e:inT (T.int r) (jJu (a::r'))=(a == r||inT (T.int r) (jJu r')):=rfl
  rw[e,ih]
  by_cases q:a=r
  ·simp[q]
  ·have q':¬ r=a:=fun z=>q z.symm
   simp[q,q']
noncomputable def jKv:Sp3:=fun xs G Q=>∃(a l:Addr) (W:Web) (s:WS),xs=[.ref a]/\WkAt G a l W s/\s.rm<W.length/\(s.rm:Int)∈s.ly/\Q (jXu W (jQi s)) (gup (gup G l (.lst (jJu (jQi s).ly))) a (wkG W l (jQi s)))
def kKg:List Str:=["self"]
noncomputable def jQ6:TS3:=
 (tSeq (tIfS (jJw (tOp jQy (tFld "Walker" "room" (tVar 0)) (tFld "Walker" "lying" (tVar 0)))) jYu jKn)
 (tSeq (jKb (tBM "list" kYo (tFld "Walker" "lying" (tVar 0)) (jJb (tFld "Walker" "room" (tVar 0)) tNil)))
 (tSeq (jVg "Walker" "held" (tVar 0) (tOp jKw (tFld "Walker" "held" (tVar 0)) (tC (.int 1))))
 (tRet (jJ0 "Walker" "here" jJo (tVar 0) tNil)))))
theorem jX5:RdOk jKv jQ6 kKg:=by
 intro xs G Q h_;apply xe4 h_;clear h_;intro a l W s h_;apply ae4 h_;clear h_;intro h hr hm kk
 show jQ6 _ [some (.ref a)] G
 obtain⟨j,hj⟩:∃j,s.ly.idxOf? (s.rm:Int)=some j:=by
  rw[<-Option.isSome_iff_exists,List.isSome_idxOf?]
  exact hm
 have ej:(jQi s).ly=s.ly.eraseIdx j:=by simp only[jQi,hj]
 wp_walk using 1,jQ6,tFld,jYu,jVg,jQy,kZv h.1,kVm h.1,qQ7 h.2,hm,jKp h.2
 rw[if_neg (by simp)]
 have g1:(gup G l (.lst (jJu (jQi s).ly))) a=some (wkG W l s):=by rw[jJh h.ne];exact h.1
 refine⟨l,s.ly,s.rm,j,rfl,rfl,h.2,hj,?_⟩
 rw[<-ej]
 refine⟨_,qVr g1,_,rfl,_,pHeld (n:=s.hd+1) rfl g1,?_⟩
 wp_walk using 1,jJ0
 exact⟨jK4 jJe,a,l,W,jQi s,rfl,⟨jJe,by rw[jJh h.ne.symm,jJe]⟩,hr,kk⟩
noncomputable def jKl:Sp3:=fun xs G Q=>∃(a:Addr) (W:Web) (r h:Nat),xs=[.ref a,encW W,.int (r:Nat),.int (h:Nat)]/\G a=some (.ins "Walker" [])/\∀l G',l≠a->G l=none->WkAt G' a l W ⟨r,none,h,[],0⟩->(∀b,b≠a->b≠l->G' b=G b)->Q .non G'
def kKh:List Str:=["self","web","room","stones"]
noncomputable def jQ7:TS3:=
 (tSeq (jVg "Walker" "web" (tVar 0) (tVar 1))
 (tSeq (jVg "Walker" "room" (tVar 0) (tVar 2))
 (tSeq (jVg "Walker" "came" (tVar 0) (tC .non))
 (tSeq (jVg "Walker" "held" (tVar 0) (tVar 3))
 (tSeq (jVg "Walker" "lying" (tVar 0) (tLst tNil))
 (jVg "Walker" "walked" (tVar 0) (tC (.int 0))))))))
theorem setN {G:Gp} {a:Addr} {f:Str} {v:T} {fs fs':List (Str×T)} (h:G a=some (.ins "Walker" fs)) (hl:fs.length<1000) (hp:jUv f v fs=fs'):jYy "Walker" f G (.ref a) v=some (gup G a (.ins "Walker" fs')):=by
 simp only[jYy,h]
 rw[if_pos ⟨trivial,hl⟩,hp]
theorem jX6:RdOk jKl jQ7 kKh:=by
 intro xs G Q h_;apply xe4 h_;clear h_;intro a W r h h_;apply ae2 h_;clear h_;intro h0 kk
 show jQ7 _ [some (.ref a),some (encW W),some (.int (r:Nat)),some (.int (h:Nat))] G
 wp_walk using 1,jQ7,jVg
 refine⟨_,setN h0 (show 0<1000 by decide) (fs':=[("web",encW W)]) rfl,_,setN jJe (show 1<1000 by decide) (fs':=[("web",encW W),("room",.int (r:Nat))]) (by simp only[jUv,q1,if_false]),
  _,setN jJe (show 2<1000 by decide) (fs':=[("web",encW W),("room",.int (r:Nat)),("came",.non)]) (by simp only[jUv,q2,q6,if_false]),
  _,setN jJe (show 3<1000 by decide) (fs':=[("web",encW W),("room",.int (r:Nat)),("came",.non),("held",.int (h:Nat))]) (by simp only[jUv,q3,q7,q10,if_false]),Nat.zero_le _,fun l hl=> ?_⟩
 rw[jXv,jXv,jXv] at hl ⊢
 obtain⟨hla,hl0⟩:=jQn hl
 refine⟨_,setN (fs:=[("web",encW W),("room",.int (r:Nat)),("came",.non),("held",.int (h:Nat))]) (by rw[jJh hla.symm,jJe]) (show 4<1000 by decide) (fs':=[("web",encW W),("room",.int (r:Nat)),("came",.non),("held",.int (h:Nat)),("lying",.ref l)]) (by simp only[jUv,q4,q8,q11,q13,if_false]),
  _,setN jJe (show 5<1000 by decide) (fs':=wfs W l ⟨r,none,h,[],0⟩) (by simp only[jUv,q5,q9,q12,q14,q15,if_false,wfs,cmT];rfl),?_⟩
 refine kk l _ hla hl0 ⟨jJe,by rw[jJh hla,jJh hla,jJe];rfl⟩ fun b h1 h2=> ?_
 rw[jJh h1,jJh h1,jJh h2,jJh h1]
def onT (s:WS):T:= .tup [.int (s.rm:Nat),.tup (jJu (jVo s.ly))]
def jKq:Sp3:=fun xs G Q=>∃(a l:Addr) (W:Web) (s:WS),xs=[.ref a]/\WkAt G a l W s/\s.ly.length<64/\∀G',Sub G G'->Q (onT s) G'
def kXp:List Str:=["walker"]
noncomputable def jVs:TS3:=
 (tRet (tTup (jJb (tFld "Walker" "room" (tVar 0)) (jJb (tCB jJ5 (jJb (tCB kKs (jJb (tFld "Walker" "lying" (tVar 0)) tNil)) tNil)) tNil))))
theorem kJx:RdOk jKq jVs kXp:=by
 intro xs G Q h_;apply xe4 h_;clear h_;intro a l W s h_;apply ae3 h_;clear h_;intro h hl kk
 show jVs _ [some (.ref a)] G
 have hs:=sz
 wp_walk using 1,jVs,tFld,kZv h.1,kVm h.1,kKs
 refine⟨s.ly,by simp only[jUw,h.2,asL],hl,fun p hp=>⟨by omega,kk _ (.new hp)⟩⟩
abbrev kC:L2.Key:=Sum.inr "cells"
abbrev kA:L2.Key:=Sum.inr "at"
abbrev kR:L2.Key:=Sum.inr "rest"
theorem k1:¬ kC=kA:=by decide +kernel
theorem k2:¬ kC=kR:=by decide +kernel
theorem k3:¬ kA=kR:=by decide +kernel
theorem n1:¬ ("cells":Str)="at":=by decide +kernel
theorem n2:¬ ("rest":Str)="at":=by decide +kernel
theorem n3:¬ ("cells":Str)="rest":=by decide +kernel
theorem n4:¬ ("at":Str)="rest":=by decide +kernel
theorem k4:¬ kA=kC:=fun h=>k1 h.symm
theorem k5:¬ kR=kC:=fun h=>k2 h.symm
def drG (c:Addr) (a r:Int):GO:= .dck [(kC,.ref c),(kA,.int a),(kR,.int r)]
section
variable {G:Gp} {d c:Addr} {a r v:Int}
theorem ixD {k:L2.Key} {x:Str} {t:T} (h:G d=some (drG c a r)) (hk:k=Sum.inr x) (hv:valT [(kC,.ref c),(kA,.int a),(kR,.int r)] k=some t):ixR G (.ref d) (.str x)=some t:=by
 subst hk
 simp only[ixR,seqT,h,asL,dAt,drG,jXa,hv]
theorem dC (h:G d=some (drG c a r)):ixR G (.ref d) (.str (PySem.Str.ofString "cells"))=some (.ref c):=ixD h rfl (by simp only[valT,List.find?,decide_true,Option.map_some])
theorem dA (h:G d=some (drG c a r)):ixR G (.ref d) (.str (PySem.Str.ofString "at"))=some (.int a):=ixD h rfl (by simp only[valT,List.find?,decide_true,decide_eq_false k1,Option.map_some])
theorem dR (h:G d=some (drG c a r)):ixR G (.ref d) (.str (PySem.Str.ofString "rest"))=some (.int r):=ixD h rfl (by simp only[valT,List.find?,decide_true,decide_eq_false k2,decide_eq_false k3,Option.map_some])
theorem sD {x:Str} {v:T} {kvs:List (L2.Key×T)} (h:G d=some (drG c a r)) (hv:putT [(kC,.ref c),(kA,.int a),(kR,.int r)] (Sum.inr x) v=kvs):setR G (.ref d) (.str x) v=some (gup G d (.dck kvs)):=by
 simp only[setR,h,drG,jXa]
 rw[if_pos (by rw[PySem.sizeLine_eq];show 3<16777216;decide),hv]
theorem sA (h:G d=some (drG c a r)):setR G (.ref d) (.str (PySem.Str.ofString "at")) (.int v)=some (gup G d (drG c v r)):=sD h (by
 show putT [(kC,.ref c),(kA,.int a),(kR,.int r)] kA (.int v)=_
 simp[putT,n1,n2,drG])
theorem sR (h:G d=some (drG c a r)):setR G (.ref d) (.str (PySem.Str.ofString "rest")) (.int v)=some (gup G d (drG c a v)):=sD h (by
 show putT [(kC,.ref c),(kA,.int a),(kR,.int r)] kR (.int v)=_
 simp[putT,n3,n4,drG])
end
def DrAt (G:Gp) (d c:Addr) (n:Nat):Prop:=∃(cs:List Int) (a r:Int),G d=some (drG c a r)/\G c=some (.lst (jJu cs))/\1<=cs.length/\cs.length<=64/\0<=a/\a<=n/\0<=r
theorem DrAt.got {G:Gp} {d c:Addr} {n:Nat} (h:DrAt G d c n):(∃o,G d=some o)/\∃o,G c=some o:=let ⟨_,_,_,h1,h2,_⟩:=h;⟨⟨_,h1⟩,_,h2⟩
theorem DrAt.move {G G':Gp} {d c:Addr} {n m:Nat} (h:DrAt G d c n) (h1:G' d=G d) (h2:G' c=G c) (hm:n<=m):DrAt G' d c m:=
 let ⟨cs,a,r,e1,e2,e3,e4,e5,e6,e7⟩:=h;⟨cs,a,r,h1.trans e1,h2.trans e2,e3,e4,e5,by omega,e7⟩
theorem DrAt.gup {G:Gp} {d c p:Addr} {n:Nat} {o:GO} (h:DrAt G d c n) (h1:d≠p) (h2:c≠p):DrAt (gup G p o) d c n:=h.move (jJh h1) (jJh h2) (Nat.le_refl _)
theorem DrAt.sub {G G':Gp} {d c:Addr} {n:Nat} (h:DrAt G d c n) (s:Sub G G'):DrAt G' d c n:=let ⟨cs,a,r,e1,e2,e3⟩:=h;⟨cs,a,r,s _ _ e1,s _ _ e2,e3⟩
theorem DrAt.mono {G:Gp} {d c:Addr} {n m:Nat} (h:DrAt G d c n) (hm:n<=m):DrAt G d c m:=h.move rfl rfl hm
def jXi:Sp3:=fun xs G Q=>∃(ns:List Int),xs=[.scr (jJu ns)]/\ns.length<=63/\∀d c G',G d=none->G c=none->DrAt G' d c 0->Sub G G'->Q (.ref d) G'
def qJr:List Str:=["_law_script"]
noncomputable def jXn:TS3:=
 (tRet (kX3 (tC (.str (PySem.Str.ofString "cells"))) (tOp jKw (tCB qQz (jJb (tVar 0) tNil)) (tOp jU7 (tLst (jJb (tC (.int 0)) tNil)) (tCB kU9 (jJb (tOp rEqA (tCB rLen (jJb (tVar 0) tNil)) (tC (.int 0))) tNil)))) (tC (.str (PySem.Str.ofString "at"))) (tC (.int 0)) (tC (.str (PySem.Str.ofString "rest"))) (tC (.int 0))))
theorem kKp:RdOk jXi jXn qJr:=by
 intro xs G Q h_;apply xe1 h_;clear h_;intro ns h_;apply ae2 h_;clear h_;intro hl kk
 show jXn _ [some (.scr (jJu ns))] G
 have hs:=sz
 wp_walk using 1,jXn,kX3,rEqA,kUh
 intro d hd
 refine⟨_,_,rfl,rfl,fun c hc=>⟨by omega,fun p hp=> ?_⟩⟩
 obtain⟨hcd,hc0⟩:=jQn hc
 obtain⟨hpc,hp1⟩:=jQn hp
 obtain⟨hpd,hp0⟩:=jQn hp1
 have gp:(gup (gup (gup G d (GO.dck [])) c (GO.lst (jJu ns))) p (GO.lst [T.int 0])) p=some (.lst [.int 0]):=jJe
 have gc:(gup (gup (gup G d (GO.dck [])) c (GO.lst (jJu ns))) p (GO.lst [T.int 0])) c=some (.lst (jJu ns)):=by rw[jJh hpc.symm,jJe]
 have gd:(gup (gup (gup G d (GO.dck [])) c (GO.lst (jJu ns))) p (GO.lst [T.int 0])) d=some (.dck []):=by rw[jJh hpd.symm,jJh hcd.symm,jJe]
 have sb:Sub G (gup (gup (gup G d (GO.dck [])) c (GO.lst (jJu ns))) p (GO.lst [T.int 0])):=((Sub.new hd).trans (.new hc)).trans (.new hp)
 generalize gup (gup (gup G d (GO.dck [])) c (GO.lst (jJu ns))) p (GO.lst [T.int 0])=G3 at gp gc gd sb
 let b:Bool:=decide (ns.length=0)
 let n:Nat:=if ns.length=0 then 1 else 0
 have hb:(if decide ((((jJu ns).length:Nat):Int)=0)=true then (1:Int) else 0)=(n:Nat):=by
  rw[List.length_map]
  by_cases h:ns.length=0
  ·simp[n,h]
  ·have:¬ ((ns.length:Nat):Int)=0:=by omega
   simp[n,h,this]
 have hn1:n<=1:=by show (if _ then 1 else 0)<=1;split<;>omega
 have hzs:(List.replicate n [T.int 0]).flatten=jJu (List.replicate n 0):=by
  rcases Nat.lt_or_ge n 1 with h | h
  ·rw[show n=0 by omega];rfl
  ·rw[show n=1 by omega];rfl
 refine⟨_,rfl,_,jXd,.newL (jJu (List.replicate n 0)),?_,fun q hq=> ?_⟩
 ·rw[hb]
  simp only[mulR,gp]
  rw[if_pos ⟨by simp;omega,by omega,by omega⟩,<-hzs];rfl
 ·have hqc:=jJd gc hq
  have hqd:=jJd gd hq
  refine⟨.newL (jJu (ns++List.replicate n 0)),?_,fun e he=> ?_⟩
  ·simp only[addR,jJh hqc,gc,jJe]
   rw[if_pos (by simp;omega)]
   simp[jJu]
  ·obtain⟨heq,he0⟩:=jQn he
   have hed:=jJd gd he0
   refine⟨_,rfl,_,rfl,_,rfl,by rw[jJh hed,jJh hqd];exact gd,?_⟩
   have ep:putT (putT (putT [] kC (.ref e)) kA (.int 0)) kR (.int 0)=[(kC,.ref e),(kA,.int 0),(kR,.int 0)]:=by
    simp[putT,n1,n3,n4]
   refine kk d e _ hd (sb.none he0) ⟨ns++List.replicate n 0,0,0,?_,by rw[jJh hed.symm,jJe],?_,?_,Int.le_refl _,Int.le_refl _,Int.le_refl _⟩ ?_
   ·rw[jJe];exact congrArg (fun l=>some (GO.dck l)) ep
   ·rw[List.length_append,List.length_replicate]
    show 1<=ns.length+(if ns.length=0 then 1 else 0)
    split<;>omega
   ·rw[List.length_append,List.length_replicate];omega
   ·intro x o hx
    have h1:=sb x o hx
    rw[jJh (jJd hx hd),jJh (jJd h1 he0),jJh (jJd h1 hq)]
    exact h1
noncomputable def jJq:Sp3:=fun xs G Q=>∃(d c:Addr) (m:Int) (n:Nat),xs=[.ref d,.int m]/\DrAt G d c n/\n<2^40/\1<=m/\m<2^29/\∀(r:Int) G',0<=r->r<m->DrAt G' d c (n+1)->Keep d G G'->Q (.int r) G'
def kVw:List Str:=["_law_draw","_law_many","_law_found","_law_at","_law_cell","_law_m"]
noncomputable def kKr:TS3:=
 (tSeq (tIfS (jJw (tOp rGt (tOp rIxF (tVar 0) (tC (.str (PySem.Str.ofString "rest")))) (tC (.int 0)))) (tSeq (tAsg (tOp rMod (tOp rIxF (tVar 0) (tC (.str (PySem.Str.ofString "rest")))) (tVar 1)) (jJi 2))
 (tSeq (tAsg (tOp kJ0 (tOp rIxF (tVar 0) (tC (.str (PySem.Str.ofString "rest")))) (tVar 1)) (gSub (tVar 0) (tC (.str (PySem.Str.ofString "rest"))) jY8))
 (tRet (tVar 2)))) jKn)
 (tSeq (tAsg (tOp rIxF (tVar 0) (tC (.str (PySem.Str.ofString "at")))) (jJi 3))
 (tSeq (tAsg (tOp rIxF (tOp rIxF (tVar 0) (tC (.str (PySem.Str.ofString "cells")))) (tOp rMod (tVar 3) (tCB rLen (jJb (tOp rIxF (tVar 0) (tC (.str (PySem.Str.ofString "cells")))) tNil)))) (jJi 4))
 (tSeq (tAsg (tOp jKw (tVar 3) (tC (.int 1))) (gSub (tVar 0) (tC (.str (PySem.Str.ofString "at"))) jY8))
 (tSeq (tIfS (tAnd (jJw (tOp rLt (tVar 3) (tCB rLen (jJb (tOp rIxF (tVar 0) (tC (.str (PySem.Str.ofString "cells")))) tNil)))) (jJw (tOp rGe (tVar 4) (tOp rPow (tC (.int 10)) (tC (.int 18)))))) (tSeq (tAsg (tOp kJ0 (tVar 4) (tVar 1)) (gSub (tVar 0) (tC (.str (PySem.Str.ofString "rest"))) jY8))
 (tRet (tOp rMod (tVar 4) (tVar 1)))) jKn)
 (tSeq (tAsg (tOp rMod (tOp jU7 (tOp jKw (tOp jKw (tOp rMod (tVar 4) (tC (.int 2147483629))) (tOp jU7 (tOp jU7 (tVar 3) (tVar 3)) (tC (.int 7919)))) (tC (.int 11))) (tC (.int 48271))) (tC (.int 2147483647))) (jJi 5))
 (tSeq (tAsg (tOp jKw (tOp rMod (tOp jU7 (tVar 5) (tVar 5)) (tC (.int 1999999973))) (tVar 3)) (jJi 5))
 (tRet (tOp rMod (tOp kJ0 (tOp rMod (tOp jU7 (tVar 5) (tOp jKw (tOp kJ0 (tVar 5) (tC (.int 3))) (tC (.int 48271)))) (tC (.int 2147483587))) (tC (.int 7))) (tVar 1))))))))))
noncomputable def jYe:TS3:=(tSeq (tAsg (tOp rMod (tOp jU7 (tOp jKw (tOp jKw (tOp rMod (tVar 4) (tC (.int 2147483629))) (tOp jU7 (tOp jU7 (tVar 3) (tVar 3)) (tC (.int 7919)))) (tC (.int 11))) (tC (.int 48271))) (tC (.int 2147483647))) (jJi 5))
 (tSeq (tAsg (tOp jKw (tOp rMod (tOp jU7 (tVar 5) (tVar 5)) (tC (.int 1999999973))) (tVar 3)) (jJi 5))
 (tRet (tOp rMod (tOp kJ0 (tOp rMod (tOp jU7 (tVar 5) (tOp jKw (tOp kJ0 (tVar 5) (tC (.int 3))) (tC (.int 48271)))) (tC (.int 2147483587))) (tC (.int 7))) (tVar 1)))))
theorem kV6:kKr=tSeq (tIfS (jJw (tOp rGt (tOp rIxF (tVar 0) (tC (.str (PySem.Str.ofString "rest")))) (tC (.int 0)))) (tSeq (tAsg (tOp rMod (tOp rIxF (tVar 0) (tC (.str (PySem.Str.ofString "rest")))) (tVar 1)) (jJi 2))
 (tSeq (tAsg (tOp kJ0 (tOp rIxF (tVar 0) (tC (.str (PySem.Str.ofString "rest")))) (tVar 1)) (gSub (tVar 0) (tC (.str (PySem.Str.ofString "rest"))) jY8))
 (tRet (tVar 2)))) jKn) (tSeq (tAsg (tOp rIxF (tVar 0) (tC (.str (PySem.Str.ofString "at")))) (jJi 3)) (tSeq (tAsg (tOp rIxF (tOp rIxF (tVar 0) (tC (.str (PySem.Str.ofString "cells")))) (tOp rMod (tVar 3) (tCB rLen (jJb (tOp rIxF (tVar 0) (tC (.str (PySem.Str.ofString "cells")))) tNil)))) (jJi 4)) (tSeq (tAsg (tOp jKw (tVar 3) (tC (.int 1))) (gSub (tVar 0) (tC (.str (PySem.Str.ofString "at"))) jY8)) (tSeq (tIfS (tAnd (jJw (tOp rLt (tVar 3) (tCB rLen (jJb (tOp rIxF (tVar 0) (tC (.str (PySem.Str.ofString "cells")))) tNil)))) (jJw (tOp rGe (tVar 4) (tOp rPow (tC (.int 10)) (tC (.int 18)))))) (tSeq (tAsg (tOp kJ0 (tVar 4) (tVar 1)) (gSub (tVar 0) (tC (.str (PySem.Str.ofString "rest"))) jY8))
 (tRet (tOp rMod (tVar 4) (tVar 1)))) jKn) jYe)))):=rfl
theorem pick5 {G:Gp} {Q:VK3} {d:Addr} {m a cell:Int} {v2 v5:Option T} (hm1:1<=m) (ha0:0<=a) (ha1:a<2^41) (kk:∀r:Int,0<=r->r<m->Q (.int r) G):
  jYe {nx:=fun _ G'=>Q .non G',rt:=Q} [some (.ref d),some (.int m),v2,some (.int a),some (.int cell),v5] G:=by
 wp_walk using 1,jYe
 have u0:=Int.emod_nonneg ((cell%2147483629+a*a*7919+11)*48271) (b:=2147483647) (by decide)
 have u1:=Int.emod_lt_of_pos ((cell%2147483629+a*a*7919+11)*48271) (b:=2147483647) (by decide)
 refine⟨by decide,.inl ⟨by omega,by omega⟩,.inr ⟨by decide,by decide⟩,.inr ⟨by decide,by decide⟩,by decide,?_⟩
 generalize (cell%2147483629+a*a*7919+11)*48271%2147483647=u at u0 u1 ⊢
 have w0:=Int.emod_nonneg (u*u) (b:=1999999973) (by decide)
 have w1:=Int.emod_lt_of_pos (u*u) (b:=1999999973) (by decide)
 refine⟨.inl ⟨by omega,by omega⟩,by decide,⟨by decide,by decide⟩,?_⟩
 generalize u*u%1999999973=w at w0 w1 ⊢
 exact⟨.inl ⟨by omega,by omega⟩,by decide,⟨by decide,by decide⟩,by omega,kk _ (Int.emod_nonneg _ (by omega)) (Int.emod_lt_of_pos _ (by omega))⟩
theorem kQ1:RdOk jJq kKr kVw:=by
 intro xs G Q h_;apply xe4 h_;clear h_;intro d c m n h_;apply ae5 h_;clear h_;intro q0_ hn hm1 hm2 kk
 obtain⟨cs,a,r,hd,hc,hl1,hl2,ha0,ha1,hr0⟩:=q0_
 rw[show jKj kVw [.ref d,.int m]=[some (.ref d),some (.int m),none,none,none,none] from rfl,kV6]
 have hs:=sz
 have dcd:c≠d:=by rintro rfl;rw[hd] at hc;cases hc
 have dr:∀a' r':Int,0<=a'->a'<=n+1->0<=r'->DrAt (gup G d (drG c a' r')) d c (n+1):=fun a' r' h1 h2 h3=>⟨cs,a',r',jJe,by rw[jJh dcd];exact hc,hl1,hl2,h1,by omega,h3⟩
 wp_walk using 1,dR hd,dA hd,dC hd,sR hd,sA hd,jJm hc,List.length_map
 split
 ·exact⟨by omega,⟨by omega,by omega⟩,kk _ _ (Int.emod_nonneg _ (by omega)) (Int.emod_lt_of_pos _ (by omega)) (dr _ _ ha0 (by omega) (Int.ediv_nonneg hr0 (by omega))) .gup⟩
 ·have b0:=Int.emod_nonneg a (b:=(cs.length:Int)) (by omega)
  have b1:=Int.emod_lt_of_pos a (b:=(cs.length:Int)) (by omega)
  obtain⟨cell,hcell⟩:∃cell:Int,L2.atI (jJu cs) (a%cs.length)=some (.int cell):=by
   rw[atZ b0]
   have h:(a%(cs.length:Int)).toNat<cs.length:=by omega
   exact⟨cs[(a%(cs.length:Int)).toNat],by simp[h]⟩
  have h5:∀v2 v5,jYe {nx:=fun x G'=>Q T.non G',rt:=Q} [some (T.ref d),some (T.int m),v2,some (T.int a),some (.int cell),v5] (gup G d (drG c (a+1) r)):=fun v2 v5=>
   pick5 hm1 ha0 (by omega) fun x h1 h2=>kk x _ h1 h2 (dr _ _ (by omega) (by omega) hr0) .gup
  refine⟨by omega,_,(jQk hc).trans hcell,_,dC jJe,_,jJm (by rw[jJh dcd];exact hc),?_⟩
  split
  ·refine⟨⟨by decide,by decide,by decide⟩,_,rfl,?_⟩
   split
   ·rename_i hge
    have hge':(0:Int)<=cell:=Int.le_trans (by decide) hge
    refine⟨_,rfl,⟨by omega,by omega⟩,_,sR jJe,_,rfl,by omega,?_⟩
    rw[jXv]
    exact kk _ _ (Int.emod_nonneg _ (by omega)) (Int.emod_lt_of_pos _ (by omega)) (dr _ _ (by omega) (by omega) (Int.ediv_nonneg hge' (by omega))) .gup
   ·exact h5 _ _
  ·exact h5 _ _
structure MOk (L:List (Nat×Nat×Nat)) (n k D:Nat):Prop where
 nd:(L.map (·.2)).Nodup
 rng:∀x,x∈L->x.1<n/\x.2.1<k/\x.2.2<=1
 deg:∀r,(L.filter fun x=>x.1 == r).length<=D
theorem MOk.add {L:List (Nat×Nat×Nat)} {n k k' D r t s:Nat} (h:MOk L n k D) (hn:(t,s)∉L.map (·.2)) (hr:r<n) (ht:t<k') (hk:k<=k') (hs:s<=1) (hd:(L.filter fun x=>x.1 == r).length<D):MOk (L++[(r,t,s)]) n k' D where
 nd:=by
  (rw[List.map_append,List.nodup_append])
  refine⟨h.nd,by simp,fun a ha b hb=> ?_⟩
  rw[List.map_cons,List.map_nil,List.mem_singleton] at hb
  rw[hb];rintro rfl;exact hn ha
 rng:=fun x hx=>by
  rcases (List.mem_append.mp hx) with hx | hx
  ·obtain⟨a,b,c⟩:=h.rng x hx;exact⟨a,by omega,c⟩
  ·rw[List.mem_singleton.mp hx];exact⟨hr,ht,hs⟩
 deg:=fun q=>by
  rw[List.filter_append,List.length_append]
  by_cases e:r=q
  ·subst e;simp;omega
  ·have:=h.deg q;simp[e];omega
theorem MOk.fresh {L:List (Nat×Nat×Nat)} {n k D s:Nat} (h:MOk L n k D):(k,s)∉L.map (·.2):=fun z=>by
 obtain⟨x,hx,e⟩:=List.mem_map.mp z
 have:=(h.rng x hx).2.1
 rw[e] at this
 exact Nat.lt_irrefl _ this
theorem HalfL.deg {L:List (Nat×Nat×Nat)} {n r:Nat} {Hs:Web} {hs:List (Nat×Nat)} (h:HalfL L n Hs) (hr:Hs[r]? =some hs):hs.length=(L.filter fun x=>x.1 == r).length:=by
 rw[(h.perm r hs hr).length_eq,List.length_map]
def Kp (S:List Addr) (G G':Gp):Prop:=∀x o,x∉S->G x=some o->G' x=some o
theorem Kp.refl (S:List Addr) (G:Gp):Kp S G G:=fun _ _ _ h=>h
theorem Kp.trans {S:List Addr} {G G1 G2:Gp} (h:Kp S G G1) (h':Kp S G1 G2):Kp S G G2:=fun x o hx e=>h' x o hx (h x o hx e)
theorem Kp.keep {S:List Addr} {d:Addr} {G G':Gp} (h:Keep d G G') (hd:d∈S):Kp S G G':=fun x o hx e=>h x o (by rintro rfl;exact hx hd) e
theorem Kp.sub {S:List Addr} {G G':Gp} (h:Sub G G'):Kp S G G':=fun x o _ e=>h x o e
theorem Kp.gup {S:List Addr} {a:Addr} {G:Gp} {o:GO} (h:a∈S):Kp S G (gup G a o):=fun x u hx e=>by rw[jJh (by rintro rfl;exact hx h)];exact e
section
variable {G:Gp} {e d c:Addr} {E:Web} {rs:List Addr} {n:Nat} {L:List (Nat×Nat×Nat)}
theorem jUn (x:RowsAt G e E rs) (h:HalfL L n E) {r:Nat} (hr:r<n):∃a hs,rs[r]? =some a/\E[r]? =some hs/\G a=some (.lst (hs.map encE))/\ixR G (.ref e) (.int (r:Nat))=some (.ref a)/\a∈rs:=by
 have hrl:r<rs.length:=by rw[x.2.1,h.len];exact hr
 have hra:rs[r]? =some rs[r]:=List.getElem?_eq_getElem hrl
 obtain⟨hs,h1,h2⟩:=x.2.2 r _ hra
 refine⟨_,hs,hra,h1,h2,?_,List.mem_of_getElem? hra⟩
 rw[jQk x.1,atN];simp[hrl]
end
structure OkD (d:Nat) (x:T):Prop where
 tr:tree x=true
 lay:(td x).canLay0=true
 dep:(td x).depth<=d
theorem okD_int {i:Int}:OkD 0 (.int i):=⟨rfl,rfl,Nat.le_of_eq (by simp[td,PyData.depth])⟩
theorem kQ7 {d:Nat}:∀xs:List T,(∀x,x∈xs->OkD d x)->jK7 xs=true/\PyData.canLayAll0 (tds xs)=true/\PyData.depthAll (tds xs)<=d
 | [],_=>⟨rfl,by simp[tds,PyData.canLayAll0],by simp[tds,PyData.depthAll]⟩
 | x::xs,h=>by
  obtain⟨a1,a2,a3⟩:=kQ7 xs fun y hy=>h y (List.mem_cons_of_mem _ hy)
  obtain⟨b1,b2,b3⟩:=h x (List.mem_cons_self ..)
  refine⟨?_,?_,?_⟩
  ·show (tree x&&jK7 xs)=true;rw[a1,b1];rfl
  ·rw[tds,PyData.canLayAll0,a2,b2];rfl
  ·rw[tds,PyData.depthAll];omega
theorem qU1 {d:Nat} {xs:List T} (h:∀x,x∈xs->OkD d x):OkD (d+1) (.tup xs):=by
 obtain⟨a1,a2,a3⟩:=kQ7 xs h
 exact⟨a1,by rw[td,PyData.canLay0];exact a2,by rw[td,PyData.depth];omega⟩
theorem OkD.mono {d d':Nat} {x:T} (h:OkD d x) (l:d<=d'):OkD d' x:=⟨h.tr,h.lay,Nat.le_trans h.dep l⟩
theorem kQ6 {xs:List T} (h:∀x,x∈xs->OkD 40 x):jXc xs=true:=by
 obtain⟨a1,a2,a3⟩:=kQ7 xs h
 unfold jXc
 rw[a1,a2,decide_eq_true (show (PyData.list (tds xs)).depth<=50 by rw[PyData.depth];omega)];rfl
mutual
theorem kVp:∀x:T,tree x=true->eqT x x=true
 | .non,_=>rfl
 | .bl b,_=>by simp[eqT]
 | .int i,_=>by simp[eqT]
 | .str _,_=>by simp[eqT]
 | .tup xs,h=>kK8 xs h
 | .scr _,h=>nomatch h
 | .ref _,h=>nomatch h
 | .ty _,h=>nomatch h
theorem kK8:∀xs:List T,jK7 xs=true->eqTs xs xs=true
 | [],_=>rfl
 | x::xs,h=>by
  have h':(tree x&&jK7 xs)=true:=h
  rw[Bool.and_eq_true] at h'
  show (eqT x x&&eqTs xs xs)=true
  rw[kVp x h'.1,kK8 xs h'.2];rfl
end
theorem qVs {G:Gp} {p q:Addr} {F:List Nat} (h1:G p=some (.lst (jJn F))) (h2:G q=some (.lst [])):eqG G (.ref p) (.ref q)=some F.isEmpty:=by
 have ok:jXc (jJn F)=true:=kQ6 fun x hx=>by obtain⟨r,_,rfl⟩:=List.mem_map.mp hx;exact okD_int.mono (by decide)
 have ok2:jXc []=true:=kQ6 fun x hx=>nomatch hx
 have:eqG G (.ref p) (.ref q)=if jXc (jJn F)=true/\jXc []=true then some (eqTs (jJn F) []) else none:=by simp only[eqG,h1,h2]
 rw[this,if_pos ⟨ok,ok2⟩]
 cases F<;>rfl
theorem kUd {F:List Nat} {i:Int} (h0:0<=i) (h1:i<F.length):∃r,L2.atI (jJn F) i=some (.int (r:Nat))/\r∈F:=by
 have h:i.toNat<F.length:=by omega
 refine⟨F[i.toNat],?_,List.getElem_mem h⟩
 rw[atZ h0];simp[jJn,h]
def jQv (L:List (Nat×Nat×Nat)) (m D:Nat):List Nat:=(List.range m).filter fun r=>decide ((L.filter fun x=>x.1 == r).length<D)
theorem freeR_mem {L:List (Nat×Nat×Nat)} {m D r:Nat}:r∈jQv L m D↔r<m/\(L.filter fun x=>x.1 == r).length<D:=by
 unfold jQv;rw[List.mem_filter,List.mem_range,decide_eq_true_iff]
theorem kVl {L:List (Nat×Nat×Nat)} {m D:Nat}:(List.range m).filterMap (fun r:Nat=>if (L.filter fun x=>x.1 == r).length<D then some (T.int (r:Nat)) else none)=jJn (jQv L m D):=by
 unfold jQv jJn
 induction List.range m with
 | nil=>rfl
 | cons a l ih=>
  by_cases h:(L.filter fun x=>x.1 == a).length<D
  ·simp[h,ih]
  ·simp[h,ih]
noncomputable def jQe:Sp3:=fun xs G Q=>∃(d c e:Addr) (D k n N:Nat) (E:Web) (L:List (Nat×Nat×Nat)) (rs:List Addr),xs=[.ref d,.ref e,.int (D:Nat),.int (k:Nat)]/\DrAt G d c N/\N+1000<2^40/\RowsAt G e E rs/\(e::rs).Nodup/\d∉e::rs/\c∉e::rs/\HalfL L n E/\MOk L n k D/\n<=24/\D<=10/\
 ∀G' E' M k',RowsAt G' e E' rs->HalfL (L++M) n E'->MOk (L++M) n k' D->DrAt G' d c (N+1000)->Kp (d::rs) G G'->Q .non G'
def kKf:List Str:=["_law_draw","_law_ends","_law_doors","_law_many","_law_k","_law_some","_law_one","_law_other","_law_room"]
noncomputable def jQ5:TS3:=
 (tFor (jQh (jJb (jJt jJq (jJb (tVar 0) (jJb (tOp jKw (tOp jU7 (tC (.int 2)) (tCB rLen (jJb (tVar 1) tNil))) (tC (.int 1))) tNil))) tNil)) (jJi 4) (tSeq (tAsg (jQ3 [false,false,false,false,false,false,false,false,true] (jQh (jJb (tCB rLen (jJb (tVar 1) tNil)) tNil)) (jJi 8) (jJw (tOp rLt (tCB rLen (jJb (tOp rIxF (tVar 1) (tVar 8)) tNil)) (tVar 2))) (tVar 8)) (jJi 5))
 (tIfS (jJw (tOp rNeA (tVar 5) (tLst tNil))) (tSeq (tAsg (tOp rIxF (tVar 5) (jJt jJq (jJb (tVar 0) (jJb (tCB rLen (jJb (tVar 5) tNil)) tNil)))) (jJi 6))
 (tSeq (tAsg (tOp rIxF (tVar 5) (jJt jJq (jJb (tVar 0) (jJb (tCB rLen (jJb (tVar 5) tNil)) tNil)))) (jJi 7))
 (tSeq (jKb (tBM "list" jXp (tOp rIxF (tVar 1) (tVar 6)) (jJb (jJt jJq (jJb (tVar 0) (jJb (tOp jKw (tCB rLen (jJb (tOp rIxF (tVar 1) (tVar 6)) tNil)) (tC (.int 1))) tNil))) (jJb (tTup (jJb (tVar 3) (jJb (tC (.int 0)) tNil))) tNil))))
 (tSeq (tIfS (tAnd (jJw (tOp rLt (tCB rLen (jJb (tOp rIxF (tVar 1) (tVar 7)) tNil)) (tVar 2))) (jJw (tOp rGt (jJt jJq (jJb (tVar 0) (jJb (tC (.int 4)) tNil))) (tC (.int 0))))) (jKb (tBM "list" jXp (tOp rIxF (tVar 1) (tVar 7)) (jJb (jJt jJq (jJb (tVar 0) (jJb (tOp jKw (tCB rLen (jJb (tOp rIxF (tVar 1) (tVar 7)) tNil)) (tC (.int 1))) tNil))) (jJb (tTup (jJb (tVar 3) (jJb (tC (.int 1)) tNil))) tNil)))) jKn)
 (tAsg (tOp jKw (tVar 3) (tC (.int 1))) (jJi 3)))))) jKn)))
theorem jX4:RdOk jQe jQ5 kKf:=by
 intro xs G Q h_;apply xe10 h_;clear h_;intro d c e D k n N E L rs h_;apply ae11 h_;clear h_;intro hd hN hr hnd hde hce hL hM hn hD kk
 show jQ5 _ [some (.ref d),some (.ref e),some (.int (D:Nat)),some (.int (k:Nat)),none,none,none,none,none] G
 have hs:=sz
 have hrl:(rs.map T.ref).length=n:=by rw[List.length_map,hr.2.1,hL.len]
 wp_walk using 1,jQ5,jK0,jQh,jJm hr.1,hrl
 refine⟨.inl ⟨by decide,by decide⟩,d,c,_,N,rfl,hd,by omega,by omega,by omega,fun r1 G1 r0 r1' dr1 kp1=> ?_⟩
 obtain⟨m,rfl⟩:=Int.eq_ofNat_of_zero_le r0
 refine⟨_,rfl,by omega,by omega,?_⟩
 rw[show ((m:Nat):Int).toNat=m from rfl]
 have hm:m<=2*n:=by omega
 let J1:Nat->St3->Gp->Prop:=fun i τ G'=>∃(v4 v5 v6 v7 v8:Option T) (M:List (Nat×Nat×Nat)) (E':Web) (k':Nat),τ=[some (.ref d),some (.ref e),some (.int (D:Nat)),some (.int (k':Nat)),v4,v5,v6,v7,v8]/\RowsAt G' e E' rs/\HalfL (L++M) n E'/\MOk (L++M) n k' D/\DrAt G' d c (N+1+5*i)/\Kp (d::rs) G G'
 refine⟨J1,?_,?_,?_,?_⟩
 ·exact⟨_,_,_,_,_,[],E,k,rfl,hr.keep kp1 hde,by rw[List.append_nil];exact hL,by rw[List.append_nil];exact hM,dr1,.keep kp1 (by simp)⟩
 ·intros;trivial
 ·intro i x τ G2 hx h_;apply xe8 h_;clear h_;intro v4 v5 v6 v7 v8 M E' k' h_;apply ae5 h_;clear h_;intro i1 i2 i3 i4 i5
  obtain⟨hi,rfl⟩:=jQr hx
  have hrl':(rs.map T.ref).length=n:=hrl
  wp_walk using 1,jQh,jJm i1.1,hrl'
  refine⟨by omega,by omega,?_⟩
  rw[show ((n:Nat):Int).toNat=n from rfl,kJu]
  refine kKc (fun r:Nat=>if ((L++M).filter fun x=>x.1 == r).length<D then some (T.int (r:Nat)) else none) (by simp;omega) (fun _ _=>trivial) ?_ ?_
  ·intro q r hq G3 K K0 s3 hk hk0
   have hrn:r<n:=by have:=List.mem_of_getElem? hq;simpa using this
   obtain⟨a,hs',ha1,ha2,ha3,ha4,_⟩:=jUn (i1.sub s3) i2 hrn
   have hdg:=i2.deg ha2
   wp_walk using 1,ha4,jJm ha3,List.length_map
   rw[hdg]
   by_cases hc:((L++M).filter fun x=>x.1 == r).length<D
   ·rw[if_pos (by omega)];exact hk _ _ (by rw[if_pos hc]) (.refl _)
   ·rw[if_neg (by omega)];exact hk0 (by rw[if_neg hc]) _ (.refl _)
  ·intro p G3 hp0 hp3 s3
   rw[kVl] at hp3
   have i1':=i1.sub s3
   have i4':=i4.sub s3
   wp_walk using 1,rNeA
   refine⟨Nat.zero_le _,fun q hq=> ?_⟩
   have hpq:=jJd hp3 hq
   refine⟨_,qVs (by rw[jJh hpq];exact hp3) jJe,?_⟩
   have s4:Sub G2 (gup G3 q (.lst [])):=s3.trans (.new hq)
   have hp4:(gup G3 q (.lst [])) p=some (.lst (jJn (jQv (L++M) n D))):=by rw[jJh hpq];exact hp3
   have j1:=i1.sub s4
   have j4:=i4.sub s4
   have j5:Kp (d::rs) G (gup G3 q (.lst [])):=i5.trans (.sub s4)
   have pr:p∉d::e::rs:=by
    intro z
    rcases (List.mem_cons.mp z) with rfl | z
    ·obtain⟨o,ho⟩:=i4.got.1;rw[hp0] at ho;cases ho
    rcases (List.mem_cons.mp z) with rfl | z
    ·rw[i1.1] at hp0;cases hp0
    ·obtain⟨w,hw⟩:=List.getElem?_of_mem z
     obtain⟨_,_,h2⟩:=i1.2.2 w p hw
     rw[h2] at hp0;cases hp0
   generalize gup G3 q (.lst [])=G4 at hp4 j1 j4 j5 s4
   have pd:p≠d:=fun z=>pr (by rw[z];simp)
   have hFl:(jQv (L++M) n D).length<=n:=by unfold jQv;exact Nat.le_trans (List.length_filter_le _ _) (by simp)
   by_cases hemp:jQv (L++M) n D=[]
   ·rw[if_neg (by rw[hemp];decide)]
    exact⟨_,_,_,_,_,M,E',k',rfl,j1,i2,i3,j4.mono (by omega),j5⟩
   ·have hF1:1<=(jQv (L++M) n D).length:=by
     rcases Nat.lt_or_ge 0 (jQv (L++M) n D).length with z | z
     ·exact z
     ·exact absurd (List.length_eq_zero_iff.mp (by omega)) hemp
    have hFi:(jJn (jQv (L++M) n D)).length=(jQv (L++M) n D).length:=by rw[jJn,List.length_map]
    rw[if_pos (by cases h:jQv (L++M) n D with | nil=>exact absurd h hemp | cons=>rfl)]
    refine⟨_,jJm hp4,d,c,_,_,rfl,j4,by omega,by omega,by omega,fun a G5 a0 a1 dr5 kp5=> ?_⟩
    rw[hFi] at a1
    obtain⟨one,ho,hoF⟩:=kUd a0 a1
    obtain⟨ho1,ho2⟩:=freeR_mem.mp hoF
    have hp5:=kp5 p _ pd hp4
    refine⟨_,(jQk hp5).trans ho,_,jJm hp5,d,c,_,_,rfl,dr5,by omega,by omega,by omega,fun a' G6 b0 b1 dr6 kp6=> ?_⟩
    rw[hFi] at b1
    obtain⟨oth,hq1,hqF⟩:=kUd b0 b1
    obtain⟨hq2,hq3⟩:=freeR_mem.mp hqF
    have hp6:=kp6 p _ pd hp5
    have r6:=(j1.keep kp5 hde).keep kp6 hde
    obtain⟨ad,hs1,ha1,ha2,ha3,ha4,ha5⟩:=jUn r6 i2 ho1
    have hl1:=i2.deg ha2
    have had:ad≠d:=fun z=>hde (by rw[<-z];exact List.mem_cons_of_mem _ ha5)
    have hac:c≠ad:=fun z=>hce (by rw[z];exact List.mem_cons_of_mem _ ha5)
    refine⟨_,(jQk hp6).trans hq1,_,ha4,by rw[jKp ha3];trivial,_,ha4,_,jJm ha3,d,c,_,_,rfl,dr6,by omega,by omega,by rw[List.length_map];omega,fun x G7 x0 x1 dr7 kp7=> ?_⟩
    have ha7:=kp7 ad _ had ha3
    rw[List.length_map] at x1
    refine⟨by omega,ad,rfl,_,x,rfl,ha7,x0,by rw[List.length_map];omega,by rw[List.length_map];omega,?_⟩
    rw[show T.tup [T.int (k':Nat),T.int 0]=encE (k',0) from rfl,kJ6]
    have r8:=(r6.keep kp7 hde).set (hs':=hs1.take x.toNat++(k',0)::hs1.drop x.toNat) hnd ha1
    have h8:=i2.ins (k:=x.toNat) (e:=(k',0)) ha2
    have m8:MOk (L++M++[(one,k',0)]) n (k'+1) D:=i3.add i3.fresh ho1 (Nat.lt_succ_self _) (Nat.le_succ _) (by decide) ho2
    have dr8:=dr7.gup (o:= .lst ((hs1.take x.toNat++(k',0)::hs1.drop x.toNat).map encE)) had.symm hac
    have kp8:Kp (d::rs) G (gup G7 ad (.lst ((hs1.take x.toNat++(k',0)::hs1.drop x.toNat).map encE))):=(((j5.trans (.keep kp5 (by simp))).trans (.keep kp6 (by simp))).trans (.keep kp7 (by simp))).trans (.gup (List.mem_cons_of_mem _ ha5))
    generalize gup G7 ad (.lst ((hs1.take x.toNat++(k',0)::hs1.drop x.toNat).map encE))=G8 at r8 dr8 kp8
    generalize E'.set one (hs1.take x.toNat++(k',0)::hs1.drop x.toNat)=E8 at r8 h8
    obtain⟨bd,hs2,hb1,hb2,hb3,hb4,hb5⟩:=jUn r8 h8 hq2
    have hl2:=h8.deg hb2
    have hbd:bd≠d:=fun z=>hde (by rw[<-z];exact List.mem_cons_of_mem _ hb5)
    have hbc:c≠bd:=fun z=>hce (by rw[z];exact List.mem_cons_of_mem _ hb5)
    have fin1:∀(v:Option T) G9,RowsAt G9 e E8 rs->DrAt G9 d c (N+1+5*i+1+1+1+1)->Kp (d::rs) G G9->J1 (i+1) [some (.ref d),some (.ref e),some (.int (D:Nat)),some (.int ((k':Nat)+1)),some (.int (i:Nat)),some (.ref p),some (.int (one:Nat)),some (.int (oth:Nat)),v] G9:=fun v G9 q1 q2 q3=>
     ⟨_,_,_,_,_,M++[(one,k',0)],E8,k'+1,rfl,q1,by rw[<-List.append_assoc];exact h8,by rw[<-List.append_assoc];exact m8,q2.mono (by omega),q3⟩
    refine⟨_,hb4,_,jJm hb3,?_⟩
    rw[List.length_map,hl2]
    split
    ·rename_i hdeg
     refine⟨d,c,4,_,rfl,dr8,by omega,by decide,by decide,fun z G9 z0 z1 dr9 kp9=>⟨_,rfl,?_⟩⟩
     have r9:=r8.keep kp9 hde
     split
     ·have hb9:=kp9 bd _ hbd hb3
      have hix:ixR G9 (.ref e) (.int (oth:Nat))=some (.ref bd):=by
       have:oth<rs.length:=(List.getElem?_eq_some_iff.mp hb1).1
       rw[jQk r9.1,atN,List.getElem?_map,hb1];rfl
      refine⟨_,hix,by rw[jKp hb9];trivial,_,hix,_,jJm hb9,d,c,_,_,rfl,dr9,by omega,by omega,by rw[List.length_map];omega,fun y G10 y0 y1 dr10 kp10=> ?_⟩
      have hb10:=kp10 bd _ hbd hb9
      rw[List.length_map] at y1
      refine⟨by omega,bd,rfl,_,y,rfl,hb10,y0,by rw[List.length_map];omega,by rw[List.length_map];omega,?_⟩
      rw[show T.tup [T.int (k':Nat),T.int 1]=encE (k',1) from rfl,kJ6]
      have r11:=(r9.keep kp10 hde).set (hs':=hs2.take y.toNat++(k',1)::hs2.drop y.toNat) hnd hb1
      have h11:=h8.ins (k:=y.toNat) (e:=(k',1)) hb2
      have m11:MOk (L++M++[(one,k',0)]++[(oth,k',1)]) n (k'+1) D:=m8.add (fun z=>by
       rw[List.map_append,List.mem_append] at z
       rcases z with z | z
       ·exact i3.fresh z
       ·simp at z) hq2 (Nat.lt_succ_self _) (Nat.le_refl _) (Nat.le_refl _) (by omega)
      refine⟨_,_,_,_,_,M++[(one,k',0)]++[(oth,k',1)],_,k'+1,rfl,r11,by rw[<-List.append_assoc,<-List.append_assoc];exact h11,by rw[<-List.append_assoc,<-List.append_assoc];exact m11,(dr10.gup hbd.symm hbc).mono (by omega),?_⟩
      exact ((kp8.trans (.keep kp9 (by simp))).trans (.keep kp10 (by simp))).trans (.gup (List.mem_cons_of_mem _ hb5))
     ·exact fin1 _ _ r9 dr9 (kp8.trans (.keep kp9 (by simp)))
    ·exact fin1 _ _ r8 (dr8.mono (by omega)) kp8
 ·intro τ G2 h_;apply xe8 h_;clear h_;intro v4 v5 v6 v7 v8 M E' k' h_;apply ae5 h_;clear h_;intro i1 i2 i3 i4 i5
  rw[jVd] at i4
  exact kk G2 E' M k' i1 i2 i3 (i4.mono (by omega)) i5
def tw (m:Nat×Nat):Nat×Nat:=(m.1,1-m.2)
theorem jYk {L:List (Nat×Nat×Nat)} {n k D:Nat} {E:Web} (h:HalfL L n E) (ok:MOk L n k D) {r i s j:Nat} {m:Nat×Nat} (h1:en E r i=some m) (h2:en E s j=some m):r=s/\i=j:=by
 have e1:=h.mem h1
 have e2:=h.mem h2
 have hrs:r=s:=by
  obtain⟨a,ha⟩:=List.getElem?_of_mem e1
  obtain⟨b,hb⟩:=List.getElem?_of_mem e2
  have ha':(L.map (·.2))[a]? =some m:=by rw[List.getElem?_map,ha];rfl
  have hb':(L.map (·.2))[b]? =some m:=by rw[List.getElem?_map,hb];rfl
  have:=(List.getElem?_inj (List.getElem?_eq_some_iff.mp ha').1 ok.nd).mp (ha'.trans hb'.symm)
  subst this
  rw[ha] at hb;cases hb;rfl
 subst hrs
 obtain⟨es,a1,a2⟩:=jUt h1
 obtain⟨es',b1,b2⟩:=jUt h2
 rw[a1] at b1;cases b1
 refine⟨rfl,(List.getElem?_inj (List.getElem?_eq_some_iff.mp a2).1 ?_).mp (a2.trans b2.symm)⟩
 rw[(h.perm r es a1).nodup_iff]
 have:((L.filter fun x=>x.1 == r).map fun x=>x.2).Sublist (L.map (·.2)):=List.Sublist.map _ (List.filter_sublist ..)
 exact ok.nd.sublist this
open Classical in
def pl (E:Web) (m:Nat×Nat):Nat×Nat:=if h:∃p:Nat×Nat,en E p.1 p.2=some m then h.choose else (0,0)
theorem kYx {E:Web} {m:Nat×Nat} {r i:Nat} (h:en E r i=some m):en E (pl E m).1 (pl E m).2=some m:=by
 unfold pl
 have:∃p:Nat×Nat,en E p.1 p.2=some m:=⟨(r,i),h⟩
 rw[dif_pos this];exact this.choose_spec
open Classical in
def nx (E:Web) (m:Nat×Nat):Nat×Nat:=if ∃p:Nat×Nat,en E p.1 p.2=some (tw m) then pl E (tw m) else pl E m
def twW (E:Web):Web:=E.map (List.map (nx E))
theorem qQl {E:Web} {r i:Nat}:en (twW E) r i=(en E r i).map (nx E):=by
 unfold en twW
 rw[List.getElem?_map]
 cases E[r]? with
 | none=>rfl
 | some es=>show (es.map (nx E))[i]? =_;rw[List.getElem?_map];rfl
def Tree (L:List (Nat×Nat×Nat)) (k:Nat):Prop:=∀r,1<=r->r<k->∃q,q<r/\(q,r-1,0)∈L/\(r,r-1,1)∈L
theorem tw_ok {L:List (Nat×Nat×Nat)} {n k D:Nat} {E:Web} (h:HalfL L n E) (ok:MOk L n k D) (tr:Tree L n):WebOk n D (twW E) where
 len:=by unfold twW;rw[List.length_map];exact h.len
 sym:=by
  intro r i s j e
  rw[qQl] at e
  cases e1:en E r i with
  | none=>rw[e1] at e;cases e
  | some m=>
   rw[e1] at e
   have e2:nx E m=(s,j):=Option.some.inj e
   have hsd:=(ok.rng _ (h.mem e1)).2.2
   have ttw:tw (tw m)=m:=by obtain⟨a,b⟩:=m;show (a,1-(1-b))=(a,b);have:b<=1:=hsd;congr 1;omega
   by_cases c:∃p:Nat×Nat,en E p.1 p.2=some (tw m)
   ·unfold nx at e2
    rw[if_pos c] at e2
    obtain⟨p,hp⟩:=c
    have e3:=kYx hp
    rw[e2] at e3
    have e3:en E s j=some (tw m):=e3
    rw[qQl,e3]
    have c2:∃p:Nat×Nat,en E p.1 p.2=some (tw (tw m)):=⟨(r,i),by rw[ttw];exact e1⟩
    show some (nx E (tw m))=_
    unfold nx
    rw[if_pos c2,ttw]
    obtain⟨z1,z2⟩:=jYk h ok (kYx e1) e1
    exact congrArg some (Prod.ext z1 z2)
   ·unfold nx at e2
    rw[if_neg c] at e2
    obtain⟨z1,z2⟩:=jYk h ok (kYx e1) e1
    rw[e2] at z1 z2
    have z1:s=r:=z1
    have z2:j=i:=z2
    subst z1;subst z2
    rw[qQl,e1];exact e
 deg:=fun r es he=>by
  unfold twW at he
  rw[List.getElem?_map] at he
  cases e1:E[r]? with
  | none=>rw[e1] at he;cases he
  | some hs=>
   rw[e1] at he
   have:hs.map (nx E)=es:=Option.some.inj he
   rw[<-this,List.length_map,h.deg e1];exact ok.deg r
 low:=fun r h1 h2=>by
  obtain⟨q,hq,m1,m2⟩:=tr r h1 h2
  obtain⟨i',e1⟩:=h.of (by omega) m1
  obtain⟨i,e2⟩:=h.of h2 m2
  refine⟨i,q,i',?_,hq⟩
  rw[qQl,e2]
  have c:∃p:Nat×Nat,en E p.1 p.2=some (tw (r-1,1)):=⟨(q,i'),e1⟩
  show some (nx E (r-1,1))=_
  unfold nx
  rw[if_pos c]
  obtain⟨z1,z2⟩:=jYk h ok (kYx (m:=tw (r-1,1)) e1) e1
  exact congrArg some (Prod.ext z1 z2)
structure TabT (E:Web) (kvs:List (L2.TKey×T)) (done:Nat->Nat->Prop):Prop where
 at_:∀r i e,en E r i=some e->done r i->valT kvs (keyE e)=some (encE (r,i))
 no:∀e,(∀r i,en E r i=some e->¬ done r i)->valT kvs (keyE e)=none
noncomputable def kJr:Sp3:=fun xs G Q=>∃(d c:Addr) (n D N:Nat),xs=[.ref d,.int (n:Nat),.int (D:Nat)]/\DrAt G d c N/\N+2000<2^40/\1<=n/\n<=24/\2<=D/\D<=6/\∀W G',WebOk n D W->DrAt G' d c (N+2000)->Keep d G G'->Q (encW W) G'
def qJq:List Str:=["_law_draw","_law_count","_law_doors","_law_ends","_law_room","_law_some","_law_one","_law_at","_law_door","_law_mark","_law_web_here"]
noncomputable def kU7:TS3:=
 (tSeq (tAsg (jQ3 [false,false,false,false,true,false,false,false,false,false,false] (jQh (jJb (tVar 1) tNil)) (jJi 4) jUy (tLst tNil)) (jJi 3))
 (tSeq (tFor (kXi (jJb (tC (.int 1)) (jJb (tVar 1) tNil))) (jJi 4) (tSeq (tAsg (jQ3 [false,false,false,false,false,false,true,false,false,false,false] (jQh (jJb (tVar 4) tNil)) (jJi 6) (jJw (tOp rLt (tCB rLen (jJb (tOp rIxF (tVar 3) (tVar 6)) tNil)) (tVar 2))) (tVar 6)) (jJi 5))
 (tSeq (tAsg (tOp rIxF (tVar 5) (jJt jJq (jJb (tVar 0) (jJb (tCB rLen (jJb (tVar 5) tNil)) tNil)))) (jJi 6))
 (tSeq (jKb (tBM "list" jXp (tOp rIxF (tVar 3) (tVar 6)) (jJb (jJt jJq (jJb (tVar 0) (jJb (tOp jKw (tCB rLen (jJb (tOp rIxF (tVar 3) (tVar 6)) tNil)) (tC (.int 1))) tNil))) (jJb (tTup (jJb (tOp rSub (tVar 4) (tC (.int 1))) (jJb (tC (.int 0)) tNil))) tNil))))
 (jKb (tBM "list" jKc (tOp rIxF (tVar 3) (tVar 4)) (jJb (tTup (jJb (tOp rSub (tVar 4) (tC (.int 1))) (jJb (tC (.int 1)) tNil))) tNil)))))))
 (tSeq (jKb (jJt jQe (jJb (tVar 0) (jJb (tVar 3) (jJb (tVar 2) (jJb (tCB rMax (jJb (tC (.int 0)) (jJb (tOp rSub (tVar 1) (tC (.int 1))) tNil))) tNil))))))
 (tSeq (tAsg kJn (jJi 7))
 (tSeq (tFor (jQh (jJb (tVar 1) tNil)) (jJi 4) (tFor (kJ7 (jJb (tOp rIxF (tVar 3) (tVar 4)) tNil)) (gTup 2 (jVc (jJi 8) (jVc (jJi 9) gNil))) (tAsg (tTup (jJb (tVar 4) (jJb (tVar 8) tNil))) (gSub (tVar 7) (tVar 9) jY8))))
 (tSeq (tAsg (tLst tNil) (jJi 10))
 (tSeq (tFor (jQh (jJb (tVar 1) tNil)) (jJi 4) (jKb (tBM "list" jKc (tVar 10) (jJb (tCB jJ5 (jJb (jQ3 [false,false,false,false,false,false,false,false,false,true,false] (iSeq (tOp rIxF (tVar 3) (tVar 4))) (jJi 9) jUy (tBM "dict" qUu (tVar 7) (jJb (tTup (jJb (tOp rIxF (tVar 9) (tC (.int 0))) (jJb (tOp rSub (tC (.int 1)) (tOp rIxF (tVar 9) (tC (.int 1)))) tNil))) (jJb (tOp rIxF (tVar 7) (tVar 9)) tNil)))) tNil)) tNil))))
 (tRet (tCB jJ5 (jJb (tVar 10) tNil))))))))))
noncomputable def kQ3:TS3:=(tSeq (tAsg kJn (jJi 7))
 (tSeq (tFor (jQh (jJb (tVar 1) tNil)) (jJi 4) (tFor (kJ7 (jJb (tOp rIxF (tVar 3) (tVar 4)) tNil)) (gTup 2 (jVc (jJi 8) (jVc (jJi 9) gNil))) (tAsg (tTup (jJb (tVar 4) (jJb (tVar 8) tNil))) (gSub (tVar 7) (tVar 9) jY8))))
 (tSeq (tAsg (tLst tNil) (jJi 10))
 (tSeq (tFor (jQh (jJb (tVar 1) tNil)) (jJi 4) (jKb (tBM "list" jKc (tVar 10) (jJb (tCB jJ5 (jJb (jQ3 [false,false,false,false,false,false,false,false,false,true,false] (iSeq (tOp rIxF (tVar 3) (tVar 4))) (jJi 9) jUy (tBM "dict" qUu (tVar 7) (jJb (tTup (jJb (tOp rIxF (tVar 9) (tC (.int 0))) (jJb (tOp rSub (tC (.int 1)) (tOp rIxF (tVar 9) (tC (.int 1)))) tNil))) (jJb (tOp rIxF (tVar 7) (tVar 9)) tNil)))) tNil)) tNil))))
 (tRet (tCB jJ5 (jJb (tVar 10) tNil)))))))
theorem kYh:kU7=tSeq (tAsg (jQ3 [false,false,false,false,true,false,false,false,false,false,false] (jQh (jJb (tVar 1) tNil)) (jJi 4) jUy (tLst tNil)) (jJi 3)) (tSeq (tFor (kXi (jJb (tC (.int 1)) (jJb (tVar 1) tNil))) (jJi 4) (tSeq (tAsg (jQ3 [false,false,false,false,false,false,true,false,false,false,false] (jQh (jJb (tVar 4) tNil)) (jJi 6) (jJw (tOp rLt (tCB rLen (jJb (tOp rIxF (tVar 3) (tVar 6)) tNil)) (tVar 2))) (tVar 6)) (jJi 5))
 (tSeq (tAsg (tOp rIxF (tVar 5) (jJt jJq (jJb (tVar 0) (jJb (tCB rLen (jJb (tVar 5) tNil)) tNil)))) (jJi 6))
 (tSeq (jKb (tBM "list" jXp (tOp rIxF (tVar 3) (tVar 6)) (jJb (jJt jJq (jJb (tVar 0) (jJb (tOp jKw (tCB rLen (jJb (tOp rIxF (tVar 3) (tVar 6)) tNil)) (tC (.int 1))) tNil))) (jJb (tTup (jJb (tOp rSub (tVar 4) (tC (.int 1))) (jJb (tC (.int 0)) tNil))) tNil))))
 (jKb (tBM "list" jKc (tOp rIxF (tVar 3) (tVar 4)) (jJb (tTup (jJb (tOp rSub (tVar 4) (tC (.int 1))) (jJb (tC (.int 1)) tNil))) tNil))))))) (tSeq (jKb (jJt jQe (jJb (tVar 0) (jJb (tVar 3) (jJb (tVar 2) (jJb (tCB rMax (jJb (tC (.int 0)) (jJb (tOp rSub (tVar 1) (tC (.int 1))) tNil))) tNil)))))) kQ3)):=rfl
theorem qUg {D':Ends3} {G:Gp} {d e:Addr} {n k D:Nat} {E:Web} {rs:List Addr} {L:List (Nat×Nat×Nat)} {v0 v2 v4 v5 v6 v8 v9 v10:Option T} (hr:RowsAt G e E rs) (h:HalfL L n E) (ok:MOk L n k D) (hn:n<=24) (hD:D<=6)
  (kk:∀G',Sub G G'->D'.rt (encW (twW E)) G'):kQ3 D' [v0,some (.int (n:Nat)),v2,some (.ref e),v4,v5,v6,none,v8,v9,v10] G:=by
 have hs:=sz
 obtain⟨hh,hlen,hrow⟩:=id hr
 have hrl:rs.length=n:=hlen.trans h.len
 wp_walk using 1,kQ3,kJn,jK0,jQh
 refine .inl fun d1 hd1=> ?_
 have hhd:=jJd hh hd1
 refine⟨by omega,by omega,?_⟩
 rw[show ((n:Nat):Int).toNat=n from rfl]
 let J1:Nat->St3->Gp->Prop:=fun r τ G'=>∃(v4 v8 v9:Option T) (kvs:List (L2.TKey×T)),τ=[v0,some (.int (n:Nat)),v2,some (.ref e),v4,v5,v6,some (.ref d1),v8,v9,v10]/\G' d1=some (.dct kvs)/\kvs.length<=10*r/\TabT E kvs (fun r' _=>r'<r)/\Sub G G'
 refine⟨J1,?_,?_,?_,?_⟩
 ·exact⟨_,_,_,[],rfl,jJe,Nat.zero_le _,⟨fun r i e _ z=>absurd z (Nat.not_lt_zero _),fun _ _=>rfl⟩,.new hd1⟩
 ·intros;trivial
 ·intro r x τ G1 hx h_;apply xe4 h_;clear h_;intro v4 v8 v9 kvs h_;apply ae4 h_;clear h_;intro hdk hkl tab sb
  obtain⟨hr',rfl⟩:=jQr hx
  obtain⟨a,hs',ha1,ha2,ha3,ha4,_⟩:=jUn (hr.sub sb) h hr'
  have hdg:hs'.length<=6:=by rw[h.deg ha2];exact Nat.le_trans (ok.deg r) hD
  wp_walk using 1,jK0,kJ7,ha4
  refine⟨hs'.map encE,by simp only[jUw,ha3,asL],?_⟩
  let J2:Nat->St3->Gp->Prop:=fun i τ G'=>∃(v8 v9:Option T) (kvs:List (L2.TKey×T)),τ=[v0,some (.int (n:Nat)),v2,some (.ref e),some (.int (r:Nat)),v5,v6,some (.ref d1),v8,v9,v10]/\G' d1=some (.dct kvs)/\kvs.length<=10*r+i/\TabT E kvs (fun r' i'=>r'<r\/(r'=r/\i'<i))/\Sub G G'
  refine⟨J2,?_,?_,?_,?_⟩
  ·refine⟨_,_,kvs,rfl,hdk,hkl,⟨fun r' i' e he hd'=>tab.at_ r' i' e he ?_,fun e he=>tab.no e fun r' i' z q=>he r' i' z (.inl q)⟩,sb⟩
   rcases hd' with z | ⟨_,z⟩
   ·exact z
   ·exact absurd z (Nat.not_lt_zero _)
  ·intro i τ G' hi h_;apply xe3 h_;clear h_;intro v8 v9 kvs h_;apply ae4 h_;clear h_;intro h1 h2 h3 h4
   obtain⟨_,_,hb1,hb2,hb3,_,_⟩:=jUn (hr.sub h4) h hr'
   rw[ha1] at hb1;cases hb1
   rw[ha2] at hb2;cases hb2
   simp only[jUw,hb3,asL]
  ·intro i x τ G2 hx h_;apply xe3 h_;clear h_;intro v8 v9 kvs h_;apply ae4 h_;clear h_;intro h1 h2 h3 h4
   have hi:i<hs'.length:=by have:=(List.getElem?_eq_some_iff.mp hx).1;simpa[jKx] using this
   have hri2:(hs'.map encE)[i]? =some (encE hs'[i]):=by simp[hi]
   rw[jYh hri2] at hx
   cases hx
   have hz:kvs.length<sizeLine:=by omega
   wp_walk using 1,encE,qJ5 h1 jXt hz
   refine⟨by omega,?_⟩
   have eri:en E r i=some hs'[i]:=jZn ha2 (List.getElem?_eq_getElem hi)
   refine⟨_,_,putT kvs (keyE hs'[i]) (encE (r,i)),rfl,jJe,by have:=qKn kvs (keyE hs'[i]) (encE (r,i));omega,⟨fun r' i' e he hd'=> ?_,fun e he=> ?_⟩,h4.over hd1⟩
   ·rw[kUv]
    by_cases hk:keyE hs'[i]=keyE e
    ·rw[if_pos hk]
     have:=kVg hk
     subst this
     obtain⟨z1,z2⟩:=jYk h ok eri he
     subst z1;subst z2;rfl
    ·rw[if_neg hk]
     refine h3.at_ r' i' e he ?_
     rcases hd' with z | ⟨z1,z2⟩
     ·exact .inl z
     ·subst z1
      by_cases hii:i'=i
      ·subst hii;rw[eri] at he;cases he;exact absurd rfl hk
      ·exact .inr ⟨rfl,by omega⟩
   ·rw[kUv]
    rw[if_neg fun hk=>he r i (by rw[<-kVg hk];exact eri) (.inr ⟨rfl,Nat.lt_succ_self _⟩)]
    exact h3.no e fun r' i' z q=>he r' i' z (by rcases q with q | ⟨q1,q2⟩;exact .inl q;exact .inr ⟨q1,by omega⟩)
  ·intro τ G' h_;apply xe3 h_;clear h_;intro v8 v9 kvs h_;apply ae4 h_;clear h_;intro h1 h2 h3 h4
   refine⟨_,v8,v9,kvs,rfl,h1,?_,⟨fun r' i' e he hd'=>h3.at_ r' i' e he ?_,fun e he=>h3.no e fun r' i' z q=>he r' i' z (by rcases q with q | ⟨q1,q2⟩<;>omega)⟩,h4⟩
   ·simp only[jKx,List.length_map] at h2;omega
   ·rcases Nat.lt_or_ge r' r with z | z
    ·exact .inl z
    ·have:r'=r:=by omega
     subst this
     obtain⟨es,q1,q2⟩:=jUt he
     rw[ha2] at q1;cases q1
     exact .inr ⟨rfl,by simpa[jKx] using (List.getElem?_eq_some_iff.mp q2).1⟩
 ·intro τ G1 h_;apply xe4 h_;clear h_;intro v4 v8 v9 kvs h_;apply ae4 h_;clear h_;intro hdk hkl tab sb
  rw[jVd] at tab
  have ptab:∀r i m,en E r i=some m->valT kvs (keyE m)=some (encE (pl E m)):=fun r i m he=>by
   have e1:=kYx he
   exact tab.at_ _ _ _ e1 (by have:=kZ4 e1;rw[h.len] at this;exact this)
  wp_walk using 1,jK0,jQh
  refine⟨Nat.zero_le _,fun w hw=> ?_⟩
  have hdw:=jJd hdk hw
  refine⟨by omega,by omega,?_⟩
  rw[show ((n:Nat):Int).toNat=n from rfl]
  let J3:Nat->St3->Gp->Prop:=fun i τ G'=>∃(v4:Option T),τ=[v0,some (.int (n:Nat)),v2,some (.ref e),v4,v5,v6,some (.ref d1),v8,v9,some (.ref w)]/\G' w=some (.lst ((E.take i).map fun hs=>encR (hs.map (nx E))))/\Sub G1 G'
  refine⟨J3,?_,?_,?_,?_⟩
  ·exact⟨_,rfl,by rw[jJe];rfl,.new hw⟩
  ·intros;trivial
  ·intro r x τ G2 hx h_;apply xe1 h_;clear h_;intro v4 h_;apply ae2 h_;clear h_;intro h1 h2
   obtain⟨hr',rfl⟩:=jQr hx
   obtain⟨a,hs',ha1,ha2,ha3,ha4,_⟩:=jUn (hr.sub (sb.trans h2)) h hr'
   have hdg:hs'.length<=6:=by rw[h.deg ha2];exact Nat.le_trans (ok.deg r) hD
   wp_walk using 1,iSeq,ha4,jKp h1
   refine⟨hs'.map encE,jJm ha3,?_⟩
   refine jUu (fun m=>encE (nx E m)) (by omega) (fun G' s=>jJm (s _ _ ha3)) ?_ ?_
   ·intro j m hm G' K K0 s hk
    obtain⟨t,sd⟩:=m
    have hen:=jZn ha2 hm
    have hsd:sd<=1:=(ok.rng _ (h.mem hen)).2.2
    have hd3:=s _ _ (h2 _ _ hdk)
    have hty:tyT G' "dict" (.ref d1):=by simp[tyT,hd3]
    wp_walk using 1,encE
    refine⟨hty,by omega,_,qVg (ks:=keyE (t,sd)) hd3 jXt (ptab _ _ _ hen),?_⟩
    have e1:(1:Int)-(sd:Nat)=((1-sd:Nat):Int):=by omega
    refine⟨d1,_,_,_,rfl,rfl,qJc (ks:=keyE (tw (t,sd))) hd3 (by rw[e1];exact jXt),?_⟩
    by_cases c:∃p:Nat×Nat,en E p.1 p.2=some (tw (t,sd))
    ·obtain⟨p,hp⟩:=id c
     rw[ptab _ _ _ hp]
     have:=hk G' (.refl _)
     unfold nx at this
     rw[if_pos c] at this
     exact this
    ·rw[tab.no _ fun r' i' z _=>c ⟨(r',i'),z⟩]
     have:=hk G' (.refl _)
     unfold nx at this
     rw[if_neg c] at this
     exact this
   ·intro q G3 hq h3 h4
    wp_walk using 1,jJm h3,h4 _ _ h1
    refine⟨by simp;omega,_,rfl,?_,((h2.trans h4).over hw)⟩
    rw[jJe,List.take_succ,ha2];simp[encR]
  ·intro τ G' h_;apply xe1 h_;clear h_;intro v4 h_;apply ae2 h_;clear h_;intro h1 h2
   rw[jVd] at h1
   wp_walk using 1,jJm h1
   have e1:(E.take n).map (fun hs=>encR (hs.map (nx E)))=(twW E).map encR:=by
    rw[<-h.len,List.take_length,twW,List.map_map];rfl
   rw[e1]
   exact kk G' (sb.trans h2)
theorem kZr {L:List (Nat×Nat×Nat)} {m D:Nat} (hD:2<=D) (hm:1<=m) (hL:L.length<2*m):jQv L m D≠[]:=by
 intro z
 have all:∀r,r<m->D<=(L.filter fun x=>x.1 == r).length:=fun r hr=>by
  rcases Nat.lt_or_ge (L.filter fun x=>x.1 == r).length D with q | q
  ·have:r∈jQv L m D:=freeR_mem.mpr ⟨hr,q⟩
   rw[z] at this;cases this
  ·exact q
 have p:=qQ3 (L:=L) (d:=D) m all
 have q:=List.length_filter_le (fun x=>decide (x.1<m)) L
 have:2*m<=m*D:=by rw[Nat.mul_comm];exact Nat.mul_le_mul_left m hD
 omega
theorem kV5:RdOk kJr kU7 qJq:=by
 intro xs G Q h_;apply xe5 h_;clear h_;intro d c n D N h_;apply ae7 h_;clear h_;intro hd hN hn1 hn hD2 hD kk
 rw[show jKj qJq [.ref d,.int (n:Nat),.int (D:Nat)]=[some (.ref d),some (.int (n:Nat)),some (.int (D:Nat)),none,none,none,none,none,none,none,none] from rfl,kYh]
 have hs:=sz
 wp_walk using 1,jK0,jQh,kXi
 refine⟨by omega,by omega,?_⟩
 rw[show ((n:Nat):Int).toNat=n from rfl,kJu]
 refine kXl (fun _=>[]) (by simp;omega) (fun _ _=>trivial) ?_ ?_
 ·intro i e he G' K K0 s hk
  wp_walk using 1,tSeq
  exact⟨Nat.zero_le _,fun p hp=>hk p _ hp jJe (.new hp)⟩
 ·intro e rs G1 he he1 s1 hrl hnd hrs
  rw[List.length_range] at hrl
  have hfr:∀r,r∈e::rs->G r=none:=by
   intro r z
   rw[List.mem_cons] at z
   rcases z with rfl | z
   ·exact he
   ·obtain⟨j,hj⟩:=List.getElem?_of_mem z
    have hjl:j<rs.length:=(List.getElem?_eq_some_iff.mp hj).1
    exact (hrs j r j hj (by rw[List.getElem?_range (by omega)])).1
  have hde:d∉e::rs:=fun z=>by obtain⟨o,ho⟩:=hd.got.1;rw[hfr d z] at ho;cases ho
  have hce:c∉e::rs:=fun z=>by obtain⟨o,ho⟩:=hd.got.2;rw[hfr c z] at ho;cases ho
  have toK:∀ {G'},Kp (d::rs) G1 G'->Keep d G G':=fun k x o hx e'=>k x o (fun z=>by
   rcases (List.mem_cons.mp z) with z | z
   ·exact hx z
   ·rw[hfr x (List.mem_cons_of_mem _ z)] at e';cases e') (s1 _ _ e')
  refine⟨by decide,by decide,by omega,by omega,?_⟩
  let J1:Nat->St3->Gp->Prop:=fun i τ G'=>∃(v4 v5 v6:Option T) (L:List (Nat×Nat×Nat)) (E:Web),τ=[some (.ref d),some (.int (n:Nat)),some (.int (D:Nat)),some (.ref e),v4,v5,v6,none,none,none,none]/\RowsAt G' e E rs/\HalfL L n E/\MOk L n i D/\L.length=2*i/\(∀x,x∈L->x.1<1+i)/\Tree L (1+i)/\DrAt G' d c (N+2*i)/\Kp (d::rs) G1 G'
  refine⟨J1,?_,?_,?_,?_⟩
  ·refine⟨_,_,_,[],List.replicate n [],rfl,⟨he1,by simp[hrl],fun i r hi=> ?_⟩,⟨by simp,fun r hs' h=> ?_⟩,⟨by simp,fun x hx=>(nomatch hx),fun r=>Nat.zero_le _⟩,rfl,fun x hx=>(nomatch hx),fun r h1 h2=>by omega,hd.sub s1,.refl _ _⟩
   ·have hil:i<rs.length:=(List.getElem?_eq_some_iff.mp hi).1
    exact⟨[],by rw[List.getElem?_replicate,if_pos (by omega)],(hrs i r i hi (by rw[List.getElem?_range (by omega)])).2⟩
   ·have:hs'=[]:=by rw[List.getElem?_replicate] at h;split at h;cases h;rfl;cases h
    subst this;simp
  ·intros;trivial
  ·intro i x τ G2 hx h_;apply xe5 h_;clear h_;intro v4 v5 v6 L E h_;apply ae8 h_;clear h_;intro i1 i2 i3 i4 i5 i6 i7 i8
   have hx':(rngT ((1:Nat):Int) ((n:Nat)-(1:Int)).toNat)[i]? =some x:=hx
   rw[jY1] at hx'
   obtain⟨i',hi',rfl⟩:=kJ4 hx'
   have hil:i<((n:Nat)-(1:Int)).toNat:=by have:=(List.getElem?_eq_some_iff.mp hi').1;simpa using this
   have hii:i'=i:=by rw[List.getElem?_range hil] at hi';exact (Option.some.inj hi').symm
   subst hii
   have hin:1+i'<n:=by omega
   wp_walk using 1,jQh
   refine⟨by omega,by omega,?_⟩
   rw[show (((1+i':Nat):Int)).toNat=1+i' from rfl,kJu]
   refine kKc (fun r:Nat=>if (L.filter fun x=>x.1 == r).length<D then some (T.int (r:Nat)) else none) (by simp;omega) (fun _ _=>trivial) ?_ ?_
   ·intro q r hq G3 K K0 s3 hk hk0
    have hrn:r<1+i':=by have:=List.mem_of_getElem? hq;simpa using this
    obtain⟨a,hs',ha1,ha2,ha3,ha4,_⟩:=jUn (i1.sub s3) i2 (show r<n by omega)
    have hdg:=i2.deg ha2
    wp_walk using 1,ha4,jJm ha3,List.length_map
    rw[hdg]
    by_cases hc:(L.filter fun x=>x.1 == r).length<D
    ·rw[if_pos (by omega)];exact hk _ _ (by rw[if_pos hc]) (.refl _)
    ·rw[if_neg (by omega)];exact hk0 (by rw[if_neg hc]) _ (.refl _)
   ·intro p G4 hp0 hp4 s4
    rw[kVl] at hp4
    have j1:=i1.sub s4
    have j4:=i7.sub s4
    have j5:Kp (d::rs) G1 G4:=i8.trans (.sub s4)
    have pd:p≠d:=fun z=>by obtain⟨o,ho⟩:=i7.got.1;rw[<-z,hp0] at ho;cases ho
    have hFl:(jQv L (1+i') D).length<=1+i':=by unfold jQv;exact Nat.le_trans (List.length_filter_le _ _) (by simp)
    have hF1:1<=(jQv L (1+i') D).length:=by
     rcases Nat.lt_or_ge 0 (jQv L (1+i') D).length with z | z
     ·exact z
     ·exact absurd (List.length_eq_zero_iff.mp (show (jQv L (1+i') D).length=0 by omega)) (kZr (L:=L) (m:=1+i') hD2 (by omega) (by omega))
    have hFi:(jJn (jQv L (1+i') D)).length=(jQv L (1+i') D).length:=by rw[jJn,List.length_map]
    wp_walk using 1,jJm hp4,hFi
    refine⟨d,c,_,_,rfl,j4,by omega,by omega,by omega,fun a G5 a0 a1 dr5 kp5=> ?_⟩
    obtain⟨one,ho,hoF⟩:=kUd a0 a1
    obtain⟨ho1,ho2⟩:=freeR_mem.mp hoF
    have hp5:=kp5 p _ pd hp4
    have r5:=j1.keep kp5 hde
    obtain⟨ad,hs1,ha1,ha2,ha3,ha4,ha5⟩:=jUn r5 i2 (show one<n by omega)
    have hl1:=i2.deg ha2
    have had:ad≠d:=fun z=>hde (by rw[<-z];exact List.mem_cons_of_mem _ ha5)
    have hac:c≠ad:=fun z=>hce (by rw[z];exact List.mem_cons_of_mem _ ha5)
    refine⟨_,(jQk hp5).trans ho,_,ha4,by rw[jKp ha3];trivial,_,ha4,_,jJm ha3,d,c,_,_,rfl,dr5,by omega,by omega,by rw[List.length_map];omega,fun x G7 x0 x1 dr7 kp7=> ?_⟩
    have ha7:=kp7 ad _ had ha3
    rw[List.length_map] at x1
    refine⟨by omega,ad,rfl,_,x,rfl,ha7,x0,by rw[List.length_map];omega,by rw[List.length_map];omega,?_⟩
    have ek:((1+i':Nat):Int)-1=(i':Nat):=by omega
    rw[ek,show T.tup [T.int (i':Nat),T.int 0]=encE (i',0) from rfl,kJ6]
    have r8:=(r5.keep kp7 hde).set (hs':=hs1.take x.toNat++(i',0)::hs1.drop x.toNat) hnd ha1
    have h8:=i2.ins (k:=x.toNat) (e:=(i',0)) ha2
    have m8:MOk (L++[(one,i',0)]) n (i'+1) D:=i3.add i3.fresh (by omega) (Nat.lt_succ_self _) (Nat.le_succ _) (by decide) ho2
    have dr8:=dr7.gup (o:= .lst ((hs1.take x.toNat++(i',0)::hs1.drop x.toNat).map encE)) had.symm hac
    have kp8:Kp (d::rs) G1 (gup G7 ad (.lst ((hs1.take x.toNat++(i',0)::hs1.drop x.toNat).map encE))):=((j5.trans (.keep kp5 (by simp))).trans (.keep kp7 (by simp))).trans (.gup (List.mem_cons_of_mem _ ha5))
    generalize gup G7 ad (.lst ((hs1.take x.toNat++(i',0)::hs1.drop x.toNat).map encE))=G8 at r8 dr8 kp8
    generalize E.set one (hs1.take x.toNat++(i',0)::hs1.drop x.toNat)=E8 at r8 h8
    obtain⟨bd,hs2,hb1,hb2,hb3,hb4,hb5⟩:=jUn r8 h8 hin
    have hl2:=h8.deg hb2
    have hbd:bd≠d:=fun z=>hde (by rw[<-z];exact List.mem_cons_of_mem _ hb5)
    have hbc:c≠bd:=fun z=>hce (by rw[z];exact List.mem_cons_of_mem _ hb5)
    have hz:((L++[(one,i',0)]).filter fun y:Nat×Nat×Nat=>y.1 == 1+i').length=0:=by
     rw[List.length_eq_zero_iff,List.filter_eq_nil_iff]
     intro y hy
     rcases (List.mem_append.mp hy) with hy | hy
     ·have:=i5 y hy;simp;omega
     ·rw[List.mem_singleton.mp hy];simp;omega
    refine⟨_,hb4,by rw[jKp hb3];trivial,by omega,bd,rfl,_,hb3,by rw[List.length_map];omega,?_⟩
    have e0:hs2.map encE++[T.tup [T.int (i':Nat),T.int 1]]=(hs2.take hs2.length++(i',1)::hs2.drop hs2.length).map encE:=by
     rw[List.take_length,List.drop_length,List.map_append];rfl
    rw[e0]
    have r9:=r8.set (hs':=hs2.take hs2.length++(i',1)::hs2.drop hs2.length) hnd hb1
    have h9:=h8.ins (k:=hs2.length) (e:=(i',1)) hb2
    have m9:MOk (L++[(one,i',0)]++[(1+i',i',1)]) n (i'+1) D:=m8.add (fun z=>by
     rw[List.map_append,List.mem_append] at z
     rcases z with z | z
     ·exact i3.fresh z
     ·simp at z) hin (Nat.lt_succ_self _) (Nat.le_refl _) (Nat.le_refl _) (by omega)
    refine⟨_,_,_,L++[(one,i',0)]++[(1+i',i',1)],_,rfl,r9,h9,m9,by simp;omega,fun y hy=> ?_,fun r h1 h2=> ?_,(dr8.gup hbd.symm hbc).mono (by omega),kp8.trans (.gup (List.mem_cons_of_mem _ hb5))⟩
    ·rcases (List.mem_append.mp hy) with hy | hy
     ·rcases (List.mem_append.mp hy) with hy | hy
      ·have:=i5 y hy;omega
      ·rw[List.mem_singleton.mp hy];show one<_;omega
     ·rw[List.mem_singleton.mp hy];show 1+i'<_;omega
    ·rcases Nat.lt_or_ge r (1+i') with z | z
     ·obtain⟨q,q1,q2,q3⟩:=i6 r h1 z
      exact⟨q,q1,List.mem_append_left _ (List.mem_append_left _ q2),List.mem_append_left _ (List.mem_append_left _ q3)⟩
     ·have:r=1+i':=by omega
      subst this
      rw[show 1+i'-1=i' by omega]
      exact⟨one,ho1,List.mem_append_left _ (List.mem_append_right _ (by simp)),List.mem_append_right _ (by simp)⟩
  ·intro τ G2 h_;apply xe5 h_;clear h_;intro v4 v5 v6 L E h_;apply ae8 h_;clear h_;intro i1 i2 i3 i4 i5 i6 i7 i8
   have eN:(rngT 1 ((n:Nat)-(1:Int)).toNat).length=n-1:=by
    show (rngT ((1:Nat):Int) ((n:Nat)-(1:Int)).toNat).length=n-1
    rw[jY1,List.length_map,List.length_range];omega
   rw[eN] at i3 i4 i5 i6 i7
   wp_walk using 1,rMax
   have ek:(if (n:Int)-1>0 then (n:Int)-1 else 0)=((n-1:Nat):Int):=by split<;>omega
   refine⟨d,c,e,D,n-1,n,N+2*(n-1),E,L,rs,by rw[ek],i7,by omega,i1,hnd,hde,hce,i2,i3,hn,by omega,fun G3 E' M k' q1 q2 q3 q4 q5=> ?_⟩
   refine qUg (d:=d) q1 q2 q3 hn hD fun G4 s4=>kk _ _ (tw_ok q2 q3 fun r h1 h2=> ?_) ((q4.sub s4).mono (by omega)) ((toK (i8.trans q5)).trans (.sub s4))
   obtain⟨q,z1,z2,z3⟩:=i6 r h1 (by omega)
   exact⟨q,z1,List.mem_append_left _ z2,List.mem_append_left _ z3⟩
def jVp (n D:Nat):Web:=(List.range n).map fun r=>[((r+1)%n,1),((r+n-1)%n,0)]++(List.range (D-2)).map fun k=>(r,2+k)
theorem jYm {n D r i:Nat} (hr:r<n):en (jVp n D) r i=if i<2 then en (ring n) r i else if i<2+(D-2) then some (r,i) else none:=by
 have e1:(jVp n D)[r]? =some ([((r+1)%n,1),((r+n-1)%n,0)]++(List.range (D-2)).map fun k=>(r,2+k)):=by unfold jVp;simp[hr]
 have e2:(ring n)[r]? =some [((r+1)%n,1),((r+n-1)%n,0)]:=by unfold ring;simp[hr]
 unfold en
 rw[e1,e2]
 show ([((r+1)%n,1),((r+n-1)%n,0)]++(List.range (D-2)).map fun k=>(r,2+k))[i]? =_
 by_cases h:i<2
 ·rw[if_pos h,List.getElem?_append_left (by simpa using h)];rfl
 ·rw[if_neg h,List.getElem?_append_right (by simpa using h)]
  show ((List.range (D-2)).map fun k=>(r,2+k))[i-2]? =_
  by_cases h2:i<2+(D-2)
  ·rw[if_pos h2,List.getElem?_map,List.getElem?_range (by omega)]
   show some (r,2+(i-2))=_
   rw[show 2+(i-2)=i by omega]
  ·rw[if_neg h2,List.getElem?_eq_none (by simp;omega)]
theorem jV3 {n D:Nat}:(jVp n D).length=n:=by simp[jVp]
theorem qKe {n D:Nat} (hn:1<=n) (hD:2<=D):WebOk n D (jVp n D) where
 len:=jV3
 sym:=by
  intro r i s j h
  have hr:r<n:=by have:=kZ4 h;rw[jV3] at this;exact this
  rw[jYm hr] at h
  split at h
  ·rename_i hi
   have h2:=(kJv hn).sym _ _ _ _ h
   have hs:s<n:=by have:=kZ4 h2;rw[jYc] at this;exact this
   have hj:j<2:=by
    obtain⟨es,q1,q2⟩:=jUt h2
    have:=(List.getElem?_eq_some_iff.mp q2).1
    exact Nat.lt_of_lt_of_le this ((kJv hn).deg s es q1)
   rw[jYm hs,if_pos hj];exact h2
  ·split at h
   ·cases h
    rename_i h1 h2
    rw[jYm hr,if_neg h1,if_pos h2]
   ·cases h
 deg:=fun r es he=>by
  have hr:r<n:=by have:=(List.getElem?_eq_some_iff.mp he).1;rw[jV3] at this;exact this
  have e1:(jVp n D)[r]? =some ([((r+1)%n,1),((r+n-1)%n,0)]++(List.range (D-2)).map fun k=>(r,2+k)):=by unfold jVp;simp[hr]
  rw[e1] at he;cases he
  simp;omega
 low:=fun r h1 h2=>by
  obtain⟨i,a,j,e,ha⟩:=(kJv hn).low r h1 h2
  have hi:i<2:=by
   obtain⟨es,q1,q2⟩:=jUt e
   have:=(List.getElem?_eq_some_iff.mp q2).1
   exact Nat.lt_of_lt_of_le this ((kJv hn).deg r es q1)
  exact⟨i,a,j,by rw[jYm h2,if_pos hi];exact e,ha⟩
def jYw:Sp3:=fun xs G Q=>∃(n D:Nat),xs=[.int (n:Nat),.int (D:Nat)]/\1<=n/\n<=24/\2<=D/\D<=6/\∀G',Sub G G'->Q (encW (jVp n D)) G'
def qQu:List Str:=["_law_count","_law_doors","_law_web_here","_law_room","_law_ends","_law_door"]
noncomputable def jY5:TS3:=
 (tSeq (tAsg (tLst tNil) (jJi 2))
 (tSeq (tFor (jQh (jJb (tVar 0) tNil)) (jJi 3) (tSeq (tAsg (tLst (jJb (tTup (jJb (tOp rMod (tOp jKw (tVar 3) (tC (.int 1))) (tVar 0)) (jJb (tC (.int 1)) tNil))) (jJb (tTup (jJb (tOp rMod (tOp rSub (tOp jKw (tVar 3) (tVar 0)) (tC (.int 1))) (tVar 0)) (jJb (tC (.int 0)) tNil))) tNil))) (jJi 4))
 (jKb (tBM "list" jKc (tVar 2) (jJb (tCB jJ5 (jJb (tOp jKw (tVar 4) (jQ3 [false,false,false,false,false,true] (kXi (jJb (tC (.int 2)) (jJb (tVar 1) tNil))) (jJi 5) jUy (tTup (jJb (tVar 3) (jJb (tVar 5) tNil))))) tNil)) tNil)))))
 (tRet (tCB jJ5 (jJb (tVar 2) tNil)))))
theorem kQ0:RdOk jYw jY5 qQu:=by
 intro xs G Q h_;apply xe2 h_;clear h_;intro n D h_;apply ae5 h_;clear h_;intro hn1 hn hD2 hD kk
 show jY5 _ [some (.int (n:Nat)),some (.int (D:Nat)),none,none,none,none] G
 have hs:=sz
 wp_walk using 1,jY5,jK0,jQh
 refine⟨Nat.zero_le _,fun w hw=>⟨by omega,by omega,?_⟩⟩
 rw[show ((n:Nat):Int).toNat=n from rfl]
 let J1:Nat->St3->Gp->Prop:=fun i τ G'=>∃(v3 v4:Option T),τ=[some (.int (n:Nat)),some (.int (D:Nat)),some (.ref w),v3,v4,none]/\G' w=some (.lst (((jVp n D).take i).map encR))/\Sub G G'
 refine⟨J1,?_,?_,?_,?_⟩
 ·exact⟨_,_,rfl,jJe,.new hw⟩
 ·intros;trivial
 ·intro r x τ G1 hx h_;apply xe2 h_;clear h_;intro v3 v4 h_;apply ae2 h_;clear h_;intro h1 h2
  obtain⟨hr,rfl⟩:=jQr hx
  wp_walk using 1,kXi,jKp h1
  refine⟨by omega,by omega,by omega,by omega,by omega,fun p hp=> ?_⟩
  have hwp:=jJd h1 hp
  have hw1:(gup G1 p (GO.lst [T.tup [T.int (((r:Nat)+1)%(n:Nat)),T.int 1],T.tup [T.int (((r:Nat)+(n:Nat)-1)%(n:Nat)),T.int 0]])) w=some (.lst (((jVp n D).take r).map encR)):=by rw[jJh hwp];exact h1
  have hp1:(gup G1 p (GO.lst [T.tup [T.int (((r:Nat)+1)%(n:Nat)),T.int 1],T.tup [T.int (((r:Nat)+(n:Nat)-1)%(n:Nat)),T.int 0]])) p=some (.lst [encE ((r+1)%n,1),encE ((r+n-1)%n,0)]):=by
   rw[jJe,show ((r:Nat):Int)+(n:Nat)-1=((r+n-1:Nat):Int) by omega];rfl
  have s1:Sub G1 (gup G1 p (GO.lst [T.tup [T.int (((r:Nat)+1)%(n:Nat)),T.int 1],T.tup [T.int (((r:Nat)+(n:Nat)-1)%(n:Nat)),T.int 0]])):= .new hp
  refine⟨by rw[jKp hw1];trivial,by decide,by decide,by omega,by omega,?_⟩
  generalize gup G1 p (GO.lst [T.tup [T.int (((r:Nat)+1)%(n:Nat)),T.int 1],T.tup [T.int (((r:Nat)+(n:Nat)-1)%(n:Nat)),T.int 0]])=G2 at hw1 hp1 s1
  rw[show (2:Int)=((2:Nat):Int) from rfl,jY1,show (((D:Nat):Int)-((2:Nat):Int)).toNat=D-2 by omega]
  refine jUu (fun k:Nat=>encE (r,2+k)) (by simp;omega) (fun _ _=>trivial) ?_ ?_
  ·intro q k hk G3 K K0 s3 hkk
   wp_walk using 1,tSeq
   exact⟨by omega,hkk _ (.refl _)⟩
  ·intro q G3 hq0 hq3 s3
   have hw3:=s3 _ _ hw1
   refine⟨.newL ([encE ((r+1)%n,1),encE ((r+n-1)%n,0)]++(List.range (D-2)).map fun k=>encE (r,2+k)),?_,fun u hu=> ?_⟩
   ·simp only[addR,s3 _ _ hp1,hq3]
    rw[if_pos (by simp;omega)]
   ·have hwu:=jJd hw3 hu
    refine⟨_,jJm jJe,_,by rw[jJh hwu];exact hw3,by simp;omega,_,_,rfl,?_,fun x o hx=> ?_⟩
    ·rw[jJe]
     have hrow:(jVp n D)[r]? =some ([((r+1)%n,1),((r+n-1)%n,0)]++(List.range (D-2)).map fun k=>(r,2+k)):=by unfold jVp;simp[hr]
     rw[List.take_succ,hrow]
     simp[encR]
    ·have a1:=s3 _ _ (s1 _ _ (h2 _ _ hx))
     rw[jJh (jJd hx hw),jJh (jJd a1 hu)]
     exact a1
 ·intro τ G1 h_;apply xe2 h_;clear h_;intro v3 v4 h_;apply ae2 h_;clear h_;intro h1 h2
  rw[jVd] at h1
  wp_walk using 1,jJm h1
  have e1:(jVp n D).take n=jVp n D:=by rw[List.take_of_length_le];rw[jV3];exact Nat.le_refl _
  rw[e1]
  exact kk G1 h2
noncomputable def jUl:Sp3:=fun xs G Q=>∃(d c:Addr) (m D N:Nat),xs=[.ref d,.int (m:Nat),.int (D:Nat)]/\DrAt G d c N/\N+2010<2^40/\1<=m/\m<=24/\2<=D/\D<=6/\∀W G',AnyWeb W->W.length<=m->DrAt G' d c (N+2010)->Keep d G G'->Q (encW W) G'
def kQm:List Str:=["_law_draw","_law_most","_law_doors","_law_count"]
noncomputable def jUp:TS3:=
 (tSeq (tAsg (tOp jKw (tC (.int 1)) (jJt jJq (jJb (tVar 0) (jJb (tVar 1) tNil)))) (jJi 3))
 (tSeq (tIfS (jJw (tOp rEqA (jJt jJq (jJb (tVar 0) (jJb (tC (.int 5)) tNil))) (tC (.int 0)))) (tRet (jJt jYw (jJb (tVar 3) (jJb (tOp rIxF (tLst (jJb (tC (.int 2)) (jJb (tVar 2) tNil))) (jJt jJq (jJb (tVar 0) (jJb (tC (.int 2)) tNil)))) tNil)))) jKn)
 (tRet (jJt kJr (jJb (tVar 0) (jJb (tVar 3) (jJb (tOp rIxF (tLst (jJb (tVar 2) (jJb (tCB kYq (jJb (tVar 2) (jJb (tC (.int 3)) tNil))) tNil))) (jJt jJq (jJb (tVar 0) (jJb (tC (.int 2)) tNil)))) tNil)))))))
theorem kXw {a b:Nat} {i:Int} (h0:0<=i) (h1:i<2):∃x:Nat,L2.atI [T.int (a:Nat),T.int (b:Nat)] i=some (.int (x:Nat))/\(x=a\/x=b):=by
 by_cases h:i<1
 ·have:i=0:=by omega
  subst this;exact⟨a,rfl,.inl rfl⟩
 ·have:i=1:=by omega
  subst this;exact⟨b,rfl,.inr rfl⟩
theorem jY2:RdOk jUl jUp kQm:=by
 intro xs G Q h_;apply xe5 h_;clear h_;intro d c m D N h_;apply ae7 h_;clear h_;intro hd hN hm1 hm hD2 hD kk
 show jUp _ [some (.ref d),some (.int (m:Nat)),some (.int (D:Nat)),none] G
 have hs:=sz
 wp_walk using 1,jUp,rEqA,kYq
 refine⟨d,c,_,N,rfl,hd,by omega,by omega,by omega,fun r1 G1 a0 a1 dr1 kp1=> ?_⟩
 obtain⟨r1,rfl⟩:=Int.eq_ofNat_of_zero_le a0
 refine⟨_,rfl,d,c,5,_,rfl,dr1,by omega,by decide,by decide,fun r2 G2 b0 b1 dr2 kp2=>⟨_,jXd,?_⟩⟩
 have ec:(1:Int)+(r1:Nat)=((1+r1:Nat):Int):=by omega
 have em:(if (3:Int)<(D:Nat) then (3:Int) else (D:Nat))=((min D 3:Nat):Int):=by
  rcases Nat.lt_or_ge 3 D with h | h
  ·rw[if_pos (by omega),Nat.min_eq_right (by omega)];rfl
  ·rw[if_neg (by omega),Nat.min_eq_left (by omega)]
 rw[em,ec]
 split
 ·refine⟨by omega,fun p hp=> ?_⟩
  obtain⟨⟨o1,ho1⟩,o2,ho2⟩:=dr2.got
  have hpd:d≠p:=jJd ho1 hp
  refine⟨d,c,2,_,rfl,dr2.gup hpd (jJd ho2 hp),by omega,by decide,by decide,fun r3 G3 c0 c1 dr3 kp3=> ?_⟩
  obtain⟨x,hx,hxx⟩:=kXw (a:=2) (b:=D) c0 c1
  refine⟨_,(jQk (kp3 _ _ hpd.symm jJe)).trans hx,1+r1,x,rfl,by omega,by omega,by omega,by omega,fun G4 s4=> ?_⟩
  have wo:=qKe (n:=1+r1) (D:=x) (by omega) (by omega)
  exact kk _ _ (wo.any (by omega) (by omega) (by omega)) (by rw[wo.len];omega) ((dr3.sub s4).mono (by omega)) (((kp1.trans kp2).trans ((Keep.new hp).trans kp3)).trans (.sub s4))
 ·refine⟨by omega,fun p hp=> ?_⟩
  obtain⟨⟨o1,ho1⟩,o2,ho2⟩:=dr2.got
  have hpd:d≠p:=jJd ho1 hp
  refine⟨d,c,2,_,rfl,dr2.gup hpd (jJd ho2 hp),by omega,by decide,by decide,fun r3 G3 c0 c1 dr3 kp3=> ?_⟩
  obtain⟨x,hx,hxx⟩:=kXw (a:=D) (b:=min D 3) c0 c1
  have hx2:2<=x/\x<=6:=by
   rcases hxx with rfl | rfl
   ·exact⟨hD2,hD⟩
   ·exact⟨by omega,by omega⟩
  refine⟨_,(jQk (kp3 _ _ hpd.symm jJe)).trans hx,d,c,1+r1,x,_,rfl,dr3,by omega,by omega,by omega,hx2.1,hx2.2,fun W G4 wo dr4 kp4=> ?_⟩
  exact kk _ _ (wo.any (by omega) (by omega) hx2.2) (by rw[wo.len];omega) (dr4.mono (by omega)) (((kp1.trans kp2).trans ((Keep.new hp).trans kp3)).trans kp4)
def pth (W:Web):Nat->List Nat->Option (List (Nat×Nat))
 | _,[]=>some []
 | r,d::ds=>match en W r d with
  | some e=>(pth W e.1 ds).map (e:: ·)
  | none=>none
def lst (r:Nat):List (Nat×Nat)->Nat
 | []=>r
 | e::es=>lst e.1 es
theorem kUb {r:Nat}:∀ {es fs:List (Nat×Nat)},lst r (es++fs)=lst (lst r es) fs
 | [],_=>rfl
 | e::es,fs=>kUb (r:=e.1) (es:=es)
theorem kJ1 {W:Web}:∀ {ds ds':List Nat} {r:Nat} {es:List (Nat×Nat)},pth W r ds=some es->pth W r (ds++ds')=(pth W (lst r es) ds').map (es++ ·)
 | [],ds',r,es,h=>by
  cases h
  show pth W r ds'=(pth W r ds').map ([]++ ·)
  cases pth W r ds'<;>rfl
 | d::ds,ds',r,es,h=>by
  unfold pth at h
  cases e1:en W r d with
  | none=>rw[e1] at h;cases h
  | some e=>
   rw[e1] at h
   simp only at h
   cases e2:pth W e.1 ds with
   | none=>rw[e2] at h;cases h
   | some fs=>
    rw[e2] at h
    cases h
    rw[List.cons_append,pth,e1]
    simp only
    rw[kJ1 e2]
    show ((pth W (lst e.1 fs) ds').map (fs++ ·)).map (e:: ·)=(pth W (lst e.1 fs) ds').map ((e::fs)++ ·)
    cases pth W (lst e.1 fs) ds'<;>rfl
theorem jQ9 {W:Web}:∀ {ds:List Nat} {r:Nat} {es:List (Nat×Nat)},pth W r ds=some es->es.length=ds.length
 | [],_,_,h=>(by cases h;rfl)
 | d::ds,r,es,h=>by
  unfold pth at h
  cases e1:en W r d with
  | none=>rw[e1] at h;cases h
  | some e=>
   rw[e1] at h
   simp only at h
   cases e2:pth W e.1 ds with
   | none=>rw[e2] at h;cases h
   | some fs=>rw[e2] at h;cases h;rw[List.length_cons,List.length_cons,jQ9 e2]
theorem kYv {W:Web} {r d:Nat} {e:Nat×Nat} (h:en W r d=some e):pth W r [d]=some [e]:=by
 unfold pth;rw[h];rfl
theorem jYg {W:Web} (sy:Sym W):∀ {ds:List Nat} {r:Nat} {es:List (Nat×Nat)},pth W r ds=some es->∃bs,pth W (lst r es) (es.map (·.2)).reverse=some bs/\lst (lst r es) bs=r/\bs.map (·.2)=ds.reverse
 | [],r,es,h=>by cases h;exact⟨[],rfl,rfl,rfl⟩
 | d::ds,r,es,h=>by
  unfold pth at h
  cases e1:en W r d with
  | none=>rw[e1] at h;cases h
  | some e=>
   rw[e1] at h
   simp only at h
   cases e2:pth W e.1 ds with
   | none=>rw[e2] at h;cases h
   | some fs=>
    rw[e2] at h
    cases h
    obtain⟨bs,b1,b2,b3⟩:=jYg sy e2
    refine⟨bs++[(r,d)],?_,?_,?_⟩
    ·show pth W (lst e.1 fs) ((e::fs).map (·.2)).reverse=_
     rw[List.map_cons,List.reverse_cons,kJ1 b1,b2,kYv (sy _ _ _ _ e1)];rfl
    ·show lst (lst e.1 fs) (bs++[(r,d)])=r
     rw[kUb];rfl
    ·rw[List.map_append,b3,List.reverse_cons];rfl
theorem pth_lt {W:Web} (f:Fine W) {r:Nat} {ds:List Nat} {es:List (Nat×Nat)} (h:pth W r ds=some es) (hr:r<W.length):lst r es<W.length:=by
 induction ds generalizing r es with
 | nil=>cases h;exact hr
 | cons d ds ih=>
  unfold pth at h
  cases e1:en W r d with
  | none=>rw[e1] at h;cases h
  | some e=>
   rw[e1] at h
   simp only at h
   cases e2:pth W e.1 ds with
   | none=>rw[e2] at h;cases h
   | some fs=>rw[e2] at h;cases h;exact (show lst e.1 fs<W.length from ih e2 (f.rng _ _ _ _ e1))
def wlkS (s:WS) (es:List (Nat×Nat)):WS:=es.foldl goS s
theorem kJl {s:WS} {es fs:List (Nat×Nat)}:wlkS s (es++fs)=wlkS (wlkS s es) fs:=List.foldl_append ..
theorem wlk_rm:∀ {es:List (Nat×Nat)} {s:WS},(wlkS s es).rm=lst s.rm es/\(wlkS s es).hd=s.hd/\(wlkS s es).ly=s.ly/\(wlkS s es).wk=s.wk+es.length
 | [],s=>⟨rfl,rfl,rfl,rfl⟩
 | e::es,s=>by
  obtain⟨a,b,c,d⟩:=wlk_rm (es:=es) (s:=goS s e)
  refine⟨a,b,c,?_⟩
  show (wlkS (goS s e) es).wk=_
  rw[d];show s.wk+1+es.length=s.wk+(es.length+1);omega
theorem jYf {W:Web} {r:Nat} {ds:List Nat} {es:List (Nat×Nat)} {i d:Nat} (hd:ds[i]? =some d) (h:pth W r (ds.take i)=some es):pth W r (ds.take (i+1))=(en W (lst r es) d).map fun e=>es++[e]:=by
 rw[show ds.take (i+1)=ds.take i++[d] by rw[List.take_succ,hd];rfl,kJ1 h]
 unfold pth
 cases en W (lst r es) d<;>rfl
theorem jV5 {W:Web} {r:Nat} {ds:List Nat} {es:List (Nat×Nat)} (h:pth W r ds=some es) (i:Nat):pth W r (ds.take i)=some (es.take i):=by
 induction ds generalizing r es i with
 | nil=>cases h;cases i<;>rfl
 | cons d ds ih=>
  unfold pth at h
  cases e1:en W r d with
  | none=>rw[e1] at h;cases h
  | some e=>
   rw[e1] at h
   simp only at h
   cases e2:pth W e.1 ds with
   | none=>rw[e2] at h;cases h
   | some fs=>
    rw[e2] at h;cases h
    cases i with
    | zero=>rfl
    | succ i=>rw[List.take_succ_cons,pth,e1];simp only;rw[ih e2 i];rfl
theorem kZm {W:Web} {s:WS} {e:Nat×Nat} {G:Gp}:ixR G (jXu W (goS s e)) (.int 1)=some (.int (e.2:Nat)):=rfl
theorem here_at {W:Web} {s:WS} {G:Gp}:ixR G (jXu W s) (.int 0)=some (.int (dg W s.rm:Nat))/\ixR G (jXu W s) (.int 2)=some (.int (s.ly.count (s.rm:Int):Nat)):=⟨rfl,rfl⟩
theorem WkAt.mv {G G':Gp} {a l:Addr} {W:Web} {s:WS} (h:WkAt G a l W s) (h1:G' a=G a) (h2:G' l=G l):WkAt G' a l W s:=⟨h1.trans h.1,h2.trans h.2⟩
theorem WkAt.go {G:Gp} {a l:Addr} {W:Web} {s:WS} {e:Nat×Nat} (h:WkAt G a l W s):WkAt (L3.gup G a (wkG W l (goS s e))) a l W (goS s e):=h.gup rfl
theorem jYj {F:List Nat} {i:Nat} {x:T} (h:(jJn F)[i]? =some x):∃d,F[i]? =some d/\x= .int (d:Nat):=by
 unfold jJn at h
 rw[List.getElem?_map] at h
 cases e:F[i]? with
 | none=>rw[e] at h;cases h
 | some d=>rw[e] at h;cases h;exact⟨d,rfl,rfl⟩
noncomputable def kUy:Sp3:=fun xs G Q=>∃(a l:Addr) (W:Web) (s:WS) (ds:List Nat) (es:List (Nat×Nat)),xs=[.ref a,.tup (jJn ds)]/\WkAt G a l W s/\Fine W/\pth W s.rm ds=some es/\ds.length<=1000/\∀p G',G p=none->G' p=some (.lst (jJn (es.map (·.2))))->WkAt G' a l W (wlkS s es)->Keep a G G'->Q (.ref p) G'
def N_led:List Str:=["walker","way","door"]
noncomputable def kYl:TS3:=
 (tRet (jQ3 [false,false,true] (iSeq (tVar 1)) (jJi 2) jUy (tOp rIxF (jJ0 "Walker" "go" jJx (tVar 0) (jJb (tVar 2) tNil)) (tC (.int 1)))))
theorem qKf:RdOk kUy kYl N_led:=by
 intro xs G Q h_;apply xe6 h_;clear h_;intro a l W s ds es h_;apply ae5 h_;clear h_;intro h fine hp hl kk
 show kYl _ [some (.ref a),some (.tup (jJn ds)),none] G
 have hs:=sz
 wp_walk using 1,kYl,iSeq
 intro q hq
 have qa:=jJd h.1 hq
 have ql:=jJd h.2 hq
 let J2:Nat->List T->Gp->Prop:=fun i acc G'=>acc=jJn ((es.take i).map (·.2))/\WkAt G' a l W (wlkS s (es.take i))/\G' q=some (.lst acc)/\Keep a G G'
 refine⟨J2,?_,?_,?_,?_⟩
 ·exact⟨rfl,⟨by rw[jJh qa];exact h.1,by rw[jJh ql];exact h.2⟩,jJe,.new hq⟩
 ·rintro i acc G' hi ⟨e1,e2,e3,e4⟩
  exact⟨trivial,e3⟩
 ·rintro i y acc G3 hy ⟨e1,e2,e3,e4⟩
  obtain⟨d,hd,rfl⟩:=jYj hy
  have hi:i<ds.length:=(List.getElem?_eq_some_iff.mp hd).1
  have hp1:=jV5 hp i
  have hp2:=jV5 hp (i+1)
  rw[jYf hd hp1] at hp2
  have hel:=jQ9 hp
  have hie:i<es.length:=by omega
  have hte:es.take (i+1)=es.take i++[es[i]]:=by rw[List.take_succ,List.getElem?_eq_getElem hie];rfl
  rw[hte] at hp2
  obtain⟨e,he⟩:∃e,en W (lst s.rm (es.take i)) d=some e:=by
   cases q:en W (lst s.rm (es.take i)) d with
   | none=>rw[q] at hp2;cases hp2
   | some e=>exact⟨e,rfl⟩
  have hee:e=es[i]:=by
   rw[he] at hp2
   have:=List.append_cancel_left (Option.some.inj hp2)
   exact (List.cons.inj this).1
  wp_walk using 1,jJ0
  refine⟨jK4 e2.1,a,l,W,_,d,e,rfl,e2,fine,by rw[wlk_rm.1];exact he,_,kZm,?_⟩
  refine⟨by rw[jJh qa.symm];exact e3,by rw[e1];simp[jJn];omega,?_,?_,jJe,?_⟩
  ·rw[hte,List.map_append,e1,<-hee];simp[jJn]
  ·rw[hte,kJl,<-hee]
   exact (e2.go (e:=e)).mv (jJh qa) (jJh ql)
  ·intro x o hx ho
   rw[jJh (jJd ho hq),jJh hx];exact e4 x o hx ho
 ·rintro acc G3 ⟨e1,e2,e3,e4⟩
  have hel:=jQ9 hp
  rw[show (jJn ds).length=es.length by rw[jJn,List.length_map];omega,List.take_length] at e1 e2
  subst e1
  exact kk q G3 hq e3 e2 e4
theorem jZk {F:List Nat}:(jJn F).reverse=jJn F.reverse:=by unfold jJn;rw[List.map_reverse]
noncomputable def jK8:Sp3:=fun xs G Q=>∃(a l:Addr) (W:Web) (s:WS) (q:Addr) (bs:List Nat) (es:List (Nat×Nat)),xs=[.ref a,.ref q]/\WkAt G a l W s/\Fine W/\G q=some (.lst (jJn bs))/\pth W s.rm bs.reverse=some es/\∀G',WkAt G' a l W (wlkS s es)->Keep a G G'->Q .non G'
def kXq:List Str:=["walker","doors","door"]
noncomputable def jVt:TS3:=
 (tFor (iRev (jJb (tVar 1) tNil)) (jJi 2) (jKb (jJ0 "Walker" "go" jJx (tVar 0) (jJb (tVar 2) tNil))))
theorem kJy:RdOk jK8 jVt kXq:=by
 intro xs G Q h_;apply xe7 h_;clear h_;intro a l W s q bs es h_;apply ae5 h_;clear h_;intro h fine hq hp kk
 show jVt _ [some (.ref a),some (.ref q),none] G
 have hs:=sz
 have qa:q≠a:=by rintro rfl;rw[h.1] at hq;cases hq
 wp_walk using 1,jVt,jK0,iRev
 refine⟨_,by simp only[jUw,hq,asL];rfl,?_⟩
 rw[jZk]
 let J1:Nat->St3->Gp->Prop:=fun i τ G'=>∃(v2:Option T),τ=[some (.ref a),some (.ref q),v2]/\WkAt G' a l W (wlkS s (es.take i))/\Keep a G G'
 refine⟨J1,?_,?_,?_,?_⟩
 ·exact⟨_,rfl,h,.refl _ _⟩
 ·intro i τ G' hi h_;apply xe1 h_;clear h_;intro v2 h_;apply ae2 h_;clear h_;intro e2 e4
  simp only[jUw,e4 _ _ qa hq,asL]
 ·intro i y τ G3 hy h_;apply xe1 h_;clear h_;intro v2 h_;apply ae2 h_;clear h_;intro e2 e4
  obtain⟨d,hd,rfl⟩:=jYj hy
  have hi:i<bs.reverse.length:=(List.getElem?_eq_some_iff.mp hd).1
  have hp1:=jV5 hp i
  have hp2:=jV5 hp (i+1)
  rw[jYf hd hp1] at hp2
  have hel:=jQ9 hp
  have hie:i<es.length:=by omega
  have hte:es.take (i+1)=es.take i++[es[i]]:=by rw[List.take_succ,List.getElem?_eq_getElem hie];rfl
  rw[hte] at hp2
  obtain⟨e,he⟩:∃e,en W (lst s.rm (es.take i)) d=some e:=by
   cases q:en W (lst s.rm (es.take i)) d with
   | none=>rw[q] at hp2;cases hp2
   | some e=>exact⟨e,rfl⟩
  have hee:e=es[i]:=by
   rw[he] at hp2
   have:=List.append_cancel_left (Option.some.inj hp2)
   exact (List.cons.inj this).1
  wp_walk using 1,jJ0
  refine⟨jK4 e2.1,a,l,W,_,d,e,rfl,e2,fine,by rw[wlk_rm.1];exact he,_,rfl,?_,e4.trans .gup⟩
  rw[hte,kJl,<-hee]
  exact e2.go (e:=e)
 ·intro τ G3 h_;apply xe1 h_;clear h_;intro v2 h_;apply ae2 h_;clear h_;intro e2 e4
  have hel:=jQ9 hp
  rw[show (jJn bs.reverse).length=es.length by rw[jJn,List.length_map];omega,List.take_length] at e2
  exact kk G3 e2 e4
structure Like (s s':WS):Prop where
 rm:s'.rm=s.rm
 hd:s'.hd=s.hd
 ly:s'.ly=s.ly
 wk:s.wk<=s'.wk
theorem Like.refl (s:WS):Like s s:=⟨rfl,rfl,rfl,Nat.le_refl _⟩
theorem Like.trans {s t u:WS} (h:Like s t) (h':Like t u):Like s u:=⟨h'.rm.trans h.rm,h'.hd.trans h.hd,h'.ly.trans h.ly,Nat.le_trans h.wk h'.wk⟩
def kXo (s:WS) (r:Nat):Prop:=∀x:Nat,(x:Int)∈s.ly↔x=r
noncomputable def jU1:Sp3:=fun xs G Q=>∃(a l:Addr) (W:Web) (s:WS) (r:Nat) (ds:List Nat) (es:List (Nat×Nat)),xs=[.ref a,.tup (jJn ds),.tup (jJn (es.map (·.2)))]/\WkAt G a l W s/\Fine W/\Sym W/\s.rm<W.length/\kXo s r/\pth W r ds=some es/\ds.length<=1000/\∀b G' s',(b=true↔s.rm=lst r es)->Like s s'->WkAt G' a l W s'->Keep a G G'->Q (.bl b) G'
def jZu:List Str:=["walker","way","doors","here","came","door"]
noncomputable def jXz:TS3:=
 (tSeq (tAsg (jJ0 "Walker" "here" jJo (tVar 0) tNil) (jJi 3))
 (tSeq (tAsg (tLst tNil) (jJi 4))
 (tSeq (tFor (qQc (jJb (tVar 2) tNil)) (jJi 5) (tSeq (tIfS (jJw (tOp rGe (tVar 5) (tOp rIxF (tVar 3) (tC (.int 0))))) kUx jKn)
 (tSeq (tAsg (jJ0 "Walker" "go" jJx (tVar 0) (jJb (tVar 5) tNil)) (jJi 3))
 (jKb (tBM "list" jKc (tVar 4) (jJb (tOp rIxF (tVar 3) (tC (.int 1))) tNil))))))
 (tSeq (jKb (jJt jK8 (jJb (tVar 0) (jJb (tVar 4) tNil))))
 (tRet (kJo (tOp rEqA (tVar 4) (kUw (jJb (tVar 1) tNil))) (tOp rGt (tOp rIxF (tVar 3) (tC (.int 2))) (tC (.int 0)))))))))
noncomputable def kQ4:TS3:=(tSeq (jKb (jJt jK8 (jJb (tVar 0) (jJb (tVar 4) tNil))))
 (tRet (kJo (tOp rEqA (tVar 4) (kUw (jJb (tVar 1) tNil))) (tOp rGt (tOp rIxF (tVar 3) (tC (.int 2))) (tC (.int 0))))))
theorem kYm:jXz=tSeq (tAsg (jJ0 "Walker" "here" jJo (tVar 0) tNil) (jJi 3)) (tSeq (tAsg (tLst tNil) (jJi 4)) (tSeq (tFor (qQc (jJb (tVar 2) tNil)) (jJi 5) (tSeq (tIfS (jJw (tOp rGe (tVar 5) (tOp rIxF (tVar 3) (tC (.int 0))))) kUx jKn)
 (tSeq (tAsg (jJ0 "Walker" "go" jJx (tVar 0) (jJb (tVar 5) tNil)) (jJi 3))
 (jKb (tBM "list" jKc (tVar 4) (jJb (tOp rIxF (tVar 3) (tC (.int 1))) tNil)))))) kQ4)):=rfl
theorem kZ1 {G:Gp} {p q:Addr} {A B:List Nat} (h1:G p=some (.lst (jJn A))) (h2:G q=some (.lst (jJn B))):eqG G (.ref p) (.ref q)=some (decide (A=B)):=by
 have ok:∀F:List Nat,jXc (jJn F)=true:=fun F=>kQ6 fun x hx=>by obtain⟨r,_,rfl⟩:=List.mem_map.mp hx;exact okD_int.mono (by decide)
 have:eqG G (.ref p) (.ref q)=if jXc (jJn A)=true/\jXc (jJn B)=true then some (eqTs (jJn A) (jJn B)) else none:=by simp only[eqG,h1,h2]
 rw[this,if_pos ⟨ok A,ok B⟩]
 congr 1
 clear h1 h2 this
 induction A generalizing B with
 | nil=>cases B<;>rfl
 | cons x A ih=>
  cases B with
  | nil=>rfl
  | cons y B=>
   show (eqT (.int (x:Nat)) (.int (y:Nat))&&eqTs (jJn A) (jJn B))=_
   rw[ih]
   by_cases h:x=y
   ·subst h;simp[eqT]
   ·have h2:¬ (x:Int)=y:=by omega
    simp[eqT,h,h2]
theorem kZi {G0 G:Gp} {Q:VK3} {a l q:Addr} {W:Web} {s:WS} {r m:Nat} {ds:List Nat} {es fs:List (Nat×Nat)} {v5:Option T} {D':Ends3} (hD:D'.rt=Q) (fine:Fine W) (sy:Sym W) (o1:kXo s r) (hp:pth W r ds=some es) (hl:ds.length<=1000)
  (hm:pth W s.rm ((es.map (·.2)).reverse.take m)=some fs) (hmm:m<=ds.length) (hcut:m<ds.length->pth W s.rm ((es.map (·.2)).reverse.take (m+1))=none) (h:WkAt G a l W (wlkS s fs)) (hq:G q=some (.lst (jJn (fs.map (·.2))))) (kp:Keep a G0 G) (qa:q≠a)
  (kk:∀b G' s',(b=true↔s.rm=lst r es)->Like s s'->WkAt G' a l W s'->Keep a G0 G'->Q (.bl b) G'):
  kQ4 D' [some (.ref a),some (.tup (jJn ds)),some (.tup (jJn (es.map (·.2)))),some (jXu W (wlkS s fs)),some (.ref q),v5] G:=by
 have hs:=sz
 wp_walk using 1,kQ4,rEqA,kUw
 obtain⟨b1,c1,c2,c3⟩:=jYg sy hm
 have hel:=jQ9 hp
 have hfl:=jQ9 hm
 have key:(fs.map (·.2)=ds.reverse/\lst s.rm fs=r)↔s.rm=lst r es:=by
  constructor
  ·rintro⟨k1,k2⟩
   have k3:(fs.map (·.2)).reverse=ds:=by rw[k1,List.reverse_reverse]
   rw[k2,k3,hp] at c1
   cases c1
   rw[k2] at c2
   exact c2.symm
  ·intro k1
   obtain⟨b2,d1,d2,d3⟩:=jYg sy hp
   rw[<-k1] at d1 d2
   have hmd:m=ds.length:=by
    rcases Nat.lt_or_ge m ds.length with z | z
    ·have:=jV5 d1 (m+1)
     rw[hcut z] at this;cases this
    ·omega
   rw[List.take_of_length_le (by simp;omega),d1] at hm
   cases hm
   exact⟨d3,d2⟩
 refine⟨a,l,W,wlkS s fs,q,fs.map (·.2),b1,rfl,h,fine,hq,by rw[wlk_rm.1];exact c1,fun G1 w1 kp1=> ?_⟩
 have lk:Like s (wlkS (wlkS s fs) b1):=by
  obtain⟨x1,x2,x3,x4⟩:=wlk_rm (es:=b1) (s:=wlkS s fs)
  obtain⟨y1,y2,y3,y4⟩:=wlk_rm (es:=fs) (s:=s)
  exact⟨by rw[x1,y1,c2],by rw[x2,y2],by rw[x3,y3],by rw[x4,y4];omega⟩
 intro u hu
 have hq1:=kp1 _ _ qa hq
 have hqu:=jJd hq1 hu
 have w2:WkAt (gup G1 u (.lst (jJn ds).reverse)) a l W (wlkS (wlkS s fs) b1):=w1.mv (jJh (jJd w1.1 hu)) (jJh (jJd w1.2 hu))
 have kp2:Keep a G0 (gup G1 u (.lst (jJn ds).reverse)):=(kp.trans kp1).trans (.new hu)
 refine⟨_,kZ1 (A:=fs.map (·.2)) (B:=ds.reverse) (by rw[jJh hqu];exact hq1) (by rw[jJe,jZk]),?_⟩
 rw[hD]
 by_cases k1:fs.map (·.2)=ds.reverse
 ·rw[if_pos (by simpa using k1)]
  refine⟨_,here_at.2,_,rfl,kk _ _ _ ?_ lk w2 kp2⟩
  rw[decide_eq_true_iff,<-key]
  obtain⟨y1,y2,y3,y4⟩:=wlk_rm (es:=fs) (s:=s)
  rw[y1,y3]
  constructor
  ·intro z
   refine⟨k1,(o1 _).mp (List.count_pos_iff.mp ?_)⟩
   omega
  ·rintro⟨_,z⟩
   have:0<s.ly.count ((lst s.rm fs:Nat):Int):=List.count_pos_iff.mpr ((o1 _).mpr z)
   omega
 ·rw[if_neg (by simpa using k1)]
  refine kk false _ _ ?_ lk w2 kp2
  rw[<-key]
  exact⟨fun z=>(nomatch z),fun z=>absurd z.1 k1⟩
theorem jZz:RdOk jU1 jXz jZu:=by
 intro xs G Q h_;apply xe7 h_;clear h_;intro a l W s r ds es h_;apply ae8 h_;clear h_;intro h fine sy hr o1 hp hl kk
 rw[show jKj jZu [.ref a,.tup (jJn ds),.tup (jJn (es.map (·.2)))]=[some (.ref a),some (.tup (jJn ds)),some (.tup (jJn (es.map (·.2)))),none,none,none] from rfl,kYm]
 have hs:=sz
 have hel:=jQ9 hp
 wp_walk using 1,jJ0,jK0,qQc
 refine⟨jK4 h.1,a,l,W,s,rfl,h,hr,Nat.zero_le _,fun q hq=> ?_⟩
 have qa:=jJd h.1 hq
 have ql:=jJd h.2 hq
 rw[jZk]
 let J1:Nat->St3->Gp->Prop:=fun i τ G'=>∃(v5:Option T) (fs:List (Nat×Nat)),τ=[some (.ref a),some (.tup (jJn ds)),some (.tup (jJn (es.map (·.2)))),some (jXu W (wlkS s fs)),some (.ref q),v5]/\pth W s.rm ((es.map (·.2)).reverse.take i)=some fs/\WkAt G' a l W (wlkS s fs)/\G' q=some (.lst (jJn (fs.map (·.2))))/\Keep a G G'
 refine⟨J1,?_,?_,?_,?_⟩
 ·exact⟨_,[],rfl,rfl,h.mv (jJh qa) (jJh ql),jJe,.new hq⟩
 ·intros;trivial
 ·intro i y τ G3 hy h_;apply xe2 h_;clear h_;intro v5 fs h_;apply ae4 h_;clear h_;intro e1 e2 e3 e4
  obtain⟨d,hd,rfl⟩:=jYj hy
  have hi:i<(es.map (·.2)).reverse.length:=(List.getElem?_eq_some_iff.mp hd).1
  simp only[List.length_reverse,List.length_map] at hi
  have hcur:lst s.rm fs<W.length:=pth_lt fine e1 hr
  obtain⟨row,hrow⟩:∃row,W[lst s.rm fs]? =some row:=⟨_,List.getElem?_eq_getElem hcur⟩
  have hdg:dg W (wlkS s fs).rm=row.length:=by rw[wlk_rm.1,dg,hrow];rfl
  wp_walk using 1,jJ0,here_at.1
  by_cases hlt:d<row.length
  ·rw[if_neg (by rw[hdg];omega)]
   have he:en W (lst s.rm fs) d=some row[d]:=jZn hrow (List.getElem?_eq_getElem hlt)
   generalize row[d]=e at he
   have e1':=jYf hd e1
   rw[he] at e1'
   have e3':(gup G3 a (wkG W l (goS (wlkS s fs) e))) q=some (.lst (jJn (fs.map (·.2)))):=by rw[jJh qa.symm];exact e3
   have hfl:=jQ9 e1
   rw[List.length_take] at hfl
   refine⟨jK4 e2.1,a,l,W,_,d,e,rfl,e2,fine,by rw[wlk_rm.1];exact he,by rw[jKp e3'];trivial,_,kZm,_,e3',by rw[jJn,List.length_map,List.length_map];omega,?_⟩
   refine⟨_,fs++[e],by rw[kJl];rfl,e1',?_,by rw[jJe,List.map_append];simp[jJn],?_⟩
   ·rw[kJl];exact (e2.go (e:=e)).mv (jJh qa) (jJh ql)
   ·intro x o hx ho
    rw[jJh (jJd ho hq),jJh hx];exact e4 x o hx ho
  ·rw[if_pos (by rw[hdg];omega)]
   wp_walk using 1,kUx
   refine kZi (G0:=G) rfl fine sy o1 hp hl e1 (by omega) (fun _=> ?_) e2 e3 e4 qa.symm kk
   rw[jYf hd e1]
   have:en W (lst s.rm fs) d=none:=by unfold en;rw[hrow];exact List.getElem?_eq_none (by omega)
   rw[this];rfl
 ·intro τ G3 h_;apply xe2 h_;clear h_;intro v5 fs h_;apply ae4 h_;clear h_;intro e1 e2 e3 e4
  rw[show (jJn (es.map (·.2)).reverse).length=ds.length by simp[jJn];omega] at e1
  exact kZi (G0:=G) rfl fine sy o1 hp hl e1 (Nat.le_refl _) (fun z=>absurd z (Nat.lt_irrefl _)) e2 e3 e4 qa.symm kk
def ix:List Nat->Nat->Nat
 | [],_=>0
 | a::l,x=>if a=x then 0 else ix l x+1
theorem qQ6 {x:Nat}:∀ {F G:List Nat},x∈F->ix (F++G) x=ix F x
 | a::l,G,h=>by
  rw[List.cons_append,ix,ix]
  by_cases e:a=x
  ·rw[if_pos e,if_pos e]
  ·rw[if_neg e,if_neg e]
   rcases (List.mem_cons.mp h) with z | z
   ·exact absurd z.symm e
   ·rw[qQ6 z]
theorem qQ5 {x:Nat}:∀ {F:List Nat},x∉F->ix (F++[x]) x=F.length
 | [],_=>by rw[List.nil_append,ix,if_pos rfl];rfl
 | a::l,h=>by
  rw[List.cons_append,ix,if_neg fun z=>h (by rw[z];exact List.mem_cons_self ..),qQ5 fun z=>h (List.mem_cons_of_mem _ z)];rfl
theorem ix_of {x:Nat}:∀ {F:List Nat} {j:Nat},F[j]? =some x->(∀k,k<j->F[k]? ≠some x)->ix F x=j
 | [],j,h,_=>by simp at h
 | a::l,0,h,_=>by rw[ix,if_pos (by simpa using h)]
 | a::l,j+1,h,h2=>by
  rw[ix,if_neg fun z=>h2 0 (Nat.zero_lt_succ _) (by rw[z];rfl),ix_of (by simpa using h) fun k hk=>by simpa using h2 (k+1) (by omega)]
structure NumAt (F:List Nat) (x j:Nat):Prop where
 ls:∀k,k<j->F[k]? ≠some x
 at_:F[j]? =some x\/j=F.length
theorem NumAt.mem {F:List Nat} {x j:Nat} (h:NumAt F x j):(j=F.length↔x∉F)/\(x∈F->j=ix F x)/\j<=F.length:=by
 have hin:x∈F->j<F.length/\F[j]? =some x:=fun hx=>by
  rcases h.at_ with e | e
  ·exact⟨(List.getElem?_eq_some_iff.mp e).1,e⟩
  ·obtain⟨k,hk⟩:=List.getElem?_of_mem hx
   exact absurd hk (h.ls k (by have:=(List.getElem?_eq_some_iff.mp hk).1;omega))
 refine⟨⟨fun z hx=>by have:=(hin hx).1;omega,fun hx=> ?_⟩,fun hx=>(ix_of (hin hx).2 h.ls).symm,?_⟩
 ·rcases h.at_ with e | e
  ·exact absurd (List.mem_of_getElem? e) hx
  ·exact e
 ·rcases h.at_ with e | e
  ·exact Nat.le_of_lt (List.getElem?_eq_some_iff.mp e).1
  ·omega
abbrev Trk:=List Nat×List (Nat×Nat)
def trkT (t:Trk):T:= .tup [.tup (jJn t.1),.tup (jJn (t.2.map (·.2)))]
def TrOk (W:Web) (r B:Nat) (ts:List Trk):Prop:=∀t,t∈ts->pth W r t.1=some t.2/\t.1.length<=B
def jU2 (r:Nat) (ts:List Trk):List Nat:=ts.map fun t=>lst r t.2
theorem iff_ne {a b:Nat} {F:List Nat} {i:Nat} (h:F[i]? =some b) (ne:¬ a=b):F[i]? ≠some a:=by rw[h];intro z;exact ne (Option.some.inj z).symm
noncomputable def jQc:Sp3:=fun xs G Q=>∃(a l t:Addr) (W:Web) (s:WS) (r B:Nat) (ts:List Trk),xs=[.ref a,.ref t]/\WkAt G a l W s/\Fine W/\Sym W/\s.rm<W.length/\kXo s r/\G t=some (.lst (ts.map trkT))/\B<=900/\TrOk W r B ts/\∀(j:Nat) G' s',NumAt (jU2 r ts) s.rm j->Like s s'->WkAt G' a l W s'->Keep a G G'->Q (.int (j:Nat)) G'
def kKe:List Str:=["walker","tracks","number","track"]
noncomputable def jQ4:TS3:=
 (tSeq (tFor (kJ7 (jJb (tVar 1) tNil)) (gTup 2 (jVc (jJi 2) (jVc (jJi 3) gNil))) (tIfS (jJw (jJt jU1 (jJb (tVar 0) (jJb (tOp rIxF (tVar 3) (tC (.int 0))) (jJb (tOp rIxF (tVar 3) (tC (.int 1))) tNil))))) (tRet (tVar 2)) jKn))
 (tRet (tCB rLen (jJb (tVar 1) tNil))))
theorem jX2:RdOk jQc jQ4 kKe:=by
 intro xs G Q h_;apply xe8 h_;clear h_;intro a l t W s r B ts h_;apply ae9 h_;clear h_;intro h fine sy hr o1 ht hB ok kk
 show jQ4 _ [some (.ref a),some (.ref t),none,none] G
 have hs:=sz
 have ta:t≠a:=by rintro rfl;rw[h.1] at ht;cases ht
 wp_walk using 1,jQ4,jK0,kJ7
 refine⟨_,by simp only[jUw,ht,asL];rfl,?_⟩
 let J1:Nat->St3->Gp->Prop:=fun i τ G'=>∃(v2 v3:Option T) (s':WS),τ=[some (.ref a),some (.ref t),v2,v3]/\(∀k,k<i->(jU2 r ts)[k]? ≠some s.rm)/\Like s s'/\WkAt G' a l W s'/\Keep a G G'
 refine⟨J1,?_,?_,?_,?_⟩
 ·exact⟨_,_,s,rfl,fun k hk=>absurd hk (Nat.not_lt_zero _),.refl s,h,.refl _ _⟩
 ·intro i τ G' hi h_;apply xe3 h_;clear h_;intro v2 v3 s' h_;apply ae4 h_;clear h_;intro e1 e2 e3 e4
  simp only[jUw,e4 _ _ ta ht,asL]
 ·intro i y τ G1 hy h_;apply xe3 h_;clear h_;intro v2 v3 s' h_;apply ae4 h_;clear h_;intro e1 e2 e3 e4
  have hi:i<ts.length:=by have:=(List.getElem?_eq_some_iff.mp hy).1;simpa[jKx] using this
  rw[jYh (show (ts.map trkT)[i]? =some (trkT ts[i]) by simp[hi])] at hy
  cases hy
  obtain⟨k1,k2⟩:=ok ts[i] (List.getElem_mem hi)
  have hrm:(jU2 r ts)[i]? =some (lst r ts[i].2):=by simp[jU2,hi]
  wp_walk using 1,trkT
  refine⟨a,l,W,s',r,ts[i].1,ts[i].2,rfl,e3,fine,sy,by rw[e2.rm];exact hr,fun x=>by rw[e2.ly];exact o1 x,k1,by omega,fun b G2 s2 hb lk w2 kp2=> ?_⟩
  rw[e2.rm] at hb
  cases b with
  | true=>
   wp_walk using 1,tSeq
   exact kk i G2 s2 ⟨e1,.inl (by rw[hrm,<-hb.mp rfl])⟩ (e2.trans lk) w2 (e4.trans kp2)
  | false=>
   wp_walk using 1,tSeq
   refine⟨_,_,s2,rfl,fun k hk=> ?_,e2.trans lk,w2,e4.trans kp2⟩
   rcases Nat.lt_or_ge k i with z | z
   ·exact e1 k z
   ·have:k=i:=by omega
    subst this
    exact iff_ne hrm fun z=>by cases hb.mpr z
 ·intro τ G1 h_;apply xe3 h_;clear h_;intro v2 v3 s' h_;apply ae4 h_;clear h_;intro e1 e2 e3 e4
  wp_walk using 1,jJm (e4 _ _ ta ht)
  rw[jKx,List.length_map] at e1
  rw[List.length_map]
  exact kk _ G1 s' ⟨e1,.inr (by simp[jU2])⟩ e2 e3 e4
theorem kYf {r:Nat} {ts:List Trk} {t:Trk}:jU2 r (ts++[t])=jU2 r ts++[lst r t.2]:=by simp[jU2]
def endT (F:List Nat) (es:List (Nat×Nat)):List (Nat×Nat):=es.map fun e=>(ix F e.1,e.2)
theorem kVq {F X:List Nat} {es:List (Nat×Nat)} (h:∀e,e∈es->e.1∈F):endT (F++X) es=endT F es:=by
 unfold endT
 refine List.map_congr_left fun e he=> ?_
 rw[qQ6 (h e he)]
theorem qJo {xs ys:List T} {G:Gp} {Q:VK3} (hz:xs.length+ys.length<=sizeLine) (q:Q (.tup (xs++ys)) G):kV7 (.tup xs) (.tup ys) G Q:=by
 cases xs with
 | nil=>exact .inr ⟨ys,rfl,rfl,q⟩
 | cons x xs=>exact .inl ⟨.val (.tup (x::xs++ys)),by simp only[addR];rw[if_pos ⟨by simp,hz⟩],q⟩
def kJk:List Str:=["walker","tracks","told","track","back","ends","door","came","number"]
noncomputable def jY7:TS3:=
 (tSeq (tAsg (tLst (jJb (tTup (jJb (tTup tNil) (jJb (tTup tNil) tNil))) tNil)) (jJi 1))
 (tSeq (tAsg (tLst tNil) (jJi 2))
 (tSeq (jV0 (jJw (tOp rLt (tCB rLen (jJb (tVar 2) tNil)) (tCB rLen (jJb (tVar 1) tNil)))) (tSeq (tAsg (tOp rIxF (tVar 1) (tCB rLen (jJb (tVar 2) tNil))) (jJi 3))
 (tSeq (tAsg (jJt kUy (jJb (tVar 0) (jJb (tOp rIxF (tVar 3) (tC (.int 0))) tNil))) (jJi 4))
 (tSeq (tAsg (tLst tNil) (jJi 5))
 (tSeq (tFor (jQh (jJb (tOp rIxF (jJ0 "Walker" "here" jJo (tVar 0) tNil) (tC (.int 0))) tNil)) (jJi 6) (tSeq (tAsg (tOp rIxF (jJ0 "Walker" "go" jJx (tVar 0) (jJb (tVar 6) tNil)) (tC (.int 1))) (jJi 7))
 (tSeq (tAsg (jJt jQc (jJb (tVar 0) (jJb (tVar 1) tNil))) (jJi 8))
 (tSeq (tIfS (jJw (tOp rEqA (tVar 8) (tCB rLen (jJb (tVar 1) tNil)))) (jKb (tBM "list" jKc (tVar 1) (jJb (tTup (jJb (tOp kV7 (tOp rIxF (tVar 3) (tC (.int 0))) (tTup (jJb (tVar 6) tNil))) (jJb (tOp kV7 (tOp rIxF (tVar 3) (tC (.int 1))) (tTup (jJb (tVar 7) tNil))) tNil))) tNil))) jKn)
 (tSeq (jKb (tBM "list" jKc (tVar 5) (jJb (tTup (jJb (tVar 8) (jJb (tVar 7) tNil))) tNil)))
 (jKb (jJ0 "Walker" "go" jJx (tVar 0) (jJb (tVar 7) tNil))))))))
 (tSeq (jKb (jJt jK8 (jJb (tVar 0) (jJb (tVar 4) tNil))))
 (jKb (tBM "list" jKc (tVar 2) (jJb (tCB jJ5 (jJb (tVar 5) tNil)) tNil)))))))))
 (tRet (tCB jJ5 (jJb (tVar 2) tNil))))))
noncomputable def kYn:TS3:=tFor (jQh (jJb (tOp rIxF (jJ0 "Walker" "here" jJo (tVar 0) tNil) (tC (.int 0))) tNil)) (jJi 6) (tSeq (tAsg (tOp rIxF (jJ0 "Walker" "go" jJx (tVar 0) (jJb (tVar 6) tNil)) (tC (.int 1))) (jJi 7))
 (tSeq (tAsg (jJt jQc (jJb (tVar 0) (jJb (tVar 1) tNil))) (jJi 8))
 (tSeq (tIfS (jJw (tOp rEqA (tVar 8) (tCB rLen (jJb (tVar 1) tNil)))) (jKb (tBM "list" jKc (tVar 1) (jJb (tTup (jJb (tOp kV7 (tOp rIxF (tVar 3) (tC (.int 0))) (tTup (jJb (tVar 6) tNil))) (jJb (tOp kV7 (tOp rIxF (tVar 3) (tC (.int 1))) (tTup (jJb (tVar 7) tNil))) tNil))) tNil))) jKn)
 (tSeq (jKb (tBM "list" jKc (tVar 5) (jJb (tTup (jJb (tVar 8) (jJb (tVar 7) tNil))) tNil)))
 (jKb (jJ0 "Walker" "go" jJx (tVar 0) (jJb (tVar 7) tNil)))))))
theorem bsI_ok {D':Ends3} {G1:Gp} {a l t tl en':Addr} {W:Web} {s1:WS} {r qr k0:Nat} {ds:List Nat} {es:List (Nat×Nat)} {rw_:List (Nat×Nat)} {ts:List Trk} {F:List Nat} {v4 v6 v7 v8:Option T} (fine:Fine W) (sy:Sym W) (hq:W[qr]? =some rw_) (hrl:rw_.length<=6) (hW:W.length<=24)
  (h:WkAt G1 a l W s1) (hrm:s1.rm=qr) (o1:kXo s1 r) (hp:pth W r ds=some es) (hle:lst r es=qr) (hdl:ds.length<=k0) (hk0:k0<=500) (ht:G1 t=some (.lst (ts.map trkT))) (ok:TrOk W r k0 ts) (hF:jU2 r ts=F) (fd:Found W r F) (hqF:qr∈F) (he:G1 en'=some (.lst [])) (hta:t≠a) (hea:en'≠a) (het:en'≠t) (hll:l≠t/\l≠en')
  (kk:∀v6 v7 v8 G' s' ts' X,jU2 r ts'=F++X->F++X=vis F rw_->Found W r (F++X)->TrOk W r (k0+1) ts'->(∀e,e∈rw_->e.1∈F++X)->G' t=some (.lst (ts'.map trkT))->G' en'=some (.lst ((endT (F++X) rw_).map encE))->Like s1 s'->s1.wk+rw_.length<=s'.wk->WkAt G' a l W s'->Kp [a,t,en'] G1 G'->
   D'.nx [some (.ref a),some (.ref t),some (.ref tl),some (trkT (ds,es)),v4,some (.ref en'),v6,v7,v8] G'):
  kYn D' [some (.ref a),some (.ref t),some (.ref tl),some (trkT (ds,es)),v4,some (.ref en'),v6,v7,v8] G1:=by
 have hs:=sz
 have hqW:qr<W.length:=(List.getElem?_eq_some_iff.mp hq).1
 have hdg:dg W s1.rm=rw_.length:=by rw[hrm,dg,hq];rfl
 wp_walk using 1,kYn,jK0,jQh,jJ0
 refine⟨jK4 h.1,a,l,W,s1,rfl,h,by rw[hrm];exact hqW,_,here_at.1,_,rfl,by omega,by omega,?_⟩
 rw[show ((dg W s1.rm:Nat):Int).toNat=dg W s1.rm from rfl,hdg]
 let J1:Nat->St3->Gp->Prop:=fun j τ G'=>∃(v6 v7 v8:Option T) (s':WS) (ts':List Trk) (X:List Nat),τ=[some (.ref a),some (.ref t),some (.ref tl),some (trkT (ds,es)),v4,some (.ref en'),v6,v7,v8]/\jU2 r ts'=F++X/\F++X=vis F (rw_.take j)/\Found W r (F++X)/\TrOk W r (k0+1) ts'/\(∀e,e∈rw_.take j->e.1∈F++X)/\G' t=some (.lst (ts'.map trkT))/\G' en'=some (.lst ((endT (F++X) (rw_.take j)).map encE))/\Like s1 s'/\s1.wk+j<=s'.wk/\WkAt G' a l W s'/\Kp [a,t,en'] G1 G'
 refine⟨J1,?_,?_,?_,?_⟩
 ·exact⟨_,_,_,s1,ts,[],rfl,by rw[List.append_nil];exact hF,by rw[List.append_nil];rfl,by rw[List.append_nil];exact fd,fun y hy=>⟨(ok y hy).1,Nat.le_succ_of_le (ok y hy).2⟩,fun e z=>by simp at z,ht,he,.refl _,Nat.le_refl _,h,.refl _ _⟩
 ·intros;trivial
 ·intro j x τ G2 hx h_;apply xe6 h_;clear h_;intro v6 v7 v8 s' ts' X h_;apply ae11 h_;clear h_;intro i1 i2 i3 i4 i5 i6 i7 i8 i9 i10 i11
  obtain⟨hj,rfl⟩:=jQr hx
  have hej:rw_[j]? =some rw_[j]:=List.getElem?_eq_getElem hj
  generalize rw_[j]=e at hej
  have hen:en W qr j=some e:=jZn hq hej
  have he1:e.1<W.length:=fine.rng _ _ _ _ hen
  wp_walk using 1,jJ0,rEqA
  have i8r:s'.rm=qr:=i8.rm.trans hrm
  have hback:en W e.1 e.2=some (qr,j):=sy _ _ _ _ hen
  have hte:rw_.take (j+1)=rw_.take j++[e]:=by rw[List.take_succ,hej];rfl
  have hgo:WkAt (gup G2 a (wkG W l (goS s' e))) a l W (goS s' e):=i10.go
  have fin:∀(G5:Gp) (s2:WS) (ts5:List Trk) (X5:List Nat) (n:Nat),jU2 r ts5=F++X5->F++X5=vis F (rw_.take (j+1))->Found W r (F++X5)->TrOk W r (k0+1) ts5->(∀e',e'∈rw_.take (j+1)->e'.1∈F++X5)->n=ix (F++X5) e.1->(∃Y,F++X5=(F++X)++Y)->G5 t=some (.lst (ts5.map trkT))->G5 en'=some (.lst ((endT (F++X) (rw_.take j)).map encE))->Like (goS s' e) s2->WkAt G5 a l W s2->Kp [a,t,en'] G1 G5->
    tyT G5 "list" (T.ref en')/\2<=sizeLine/\∃x_2,G5 en'=some (GO.lst x_2)/\x_2.length<sizeLine/\obR (Str.ofString "Walker") (Str.ofString "go") (gup G5 en' (GO.lst (x_2++[T.tup [.int (n:Nat),.int (e.2:Nat)]]))) (T.ref a)=true/\
     jJx [T.ref a,.int (e.2:Nat)] (gup G5 en' (GO.lst (x_2++[T.tup [.int (n:Nat),.int (e.2:Nat)]]))) fun x_3 G6=>J1 (j+1) [some (T.ref a),some (T.ref t),some (T.ref tl),some (trkT (ds,es)),v4,some (T.ref en'),some (T.int (j:Nat)),some (.int (e.2:Nat)),some (.int (n:Nat))] G6:=by
   rintro G5 s2 ts5 X5 n a1 a2 a3 a4 a5 a6 ⟨Y,a7⟩ a8 a9 a10 a11 a12
   have w5:WkAt (gup G5 en' (GO.lst ((endT (F++X) (rw_.take j)).map encE++[T.tup [.int (n:Nat),.int (e.2:Nat)]]))) a l W s2:=a11.mv (jJh hea.symm) (jJh hll.2)
   refine⟨by rw[jKp a9];trivial,by omega,_,a9,by rw[List.length_map,endT,List.length_map,List.length_take];omega,jK4 w5.1,a,l,W,s2,e.2,(qr,j),rfl,w5,fine,?_,?_⟩
   ·rw[a10.rm];exact hback
   ·have e5:(endT (F++X) (rw_.take j)).map encE++[T.tup [.int (n:Nat),.int (e.2:Nat)]]=(endT (F++X5) (rw_.take (j+1))).map encE:=by
     have q1:endT (F++X5) (rw_.take j++[e])=endT (F++X) (rw_.take j)++[(n,e.2)]:=by
      have z:endT (F++X5) (rw_.take j++[e])=endT (F++X5) (rw_.take j)++[(ix (F++X5) e.1,e.2)]:=List.map_append
      rw[z,<-a6,a7,kVq i5]
     rw[hte,q1,List.map_append];rfl
    refine⟨_,_,_,goS s2 (qr,j),ts5,X5,rfl,a1,a2,a3,a4,a5,?_,?_,⟨hrm.symm,?_,?_,?_⟩,?_,?_,?_⟩
    ·rw[jJh hta,jJh het.symm];exact a8
    ·rw[jJh hea,jJe,e5]
    ·show s2.hd=_;rw[a10.hd];exact i8.hd
    ·show s2.ly=_;rw[a10.ly];exact i8.ly
    ·have:=a10.wk;have:=i8.wk;show s1.wk<=s2.wk+1;simp only[goS] at *; omega
    ·have:=a10.wk;show s1.wk+(j+1)<=s2.wk+1;simp only[goS] at *; omega
    ·exact w5.go
    ·exact (a12.trans (.gup (by simp))).trans (.gup (by simp))
  refine⟨jK4 i10.1,a,l,W,s',j,e,rfl,i10,fine,by rw[i8r];exact hen,_,kZm,?_⟩
  have ht3:(gup G2 a (wkG W l (goS s' e))) t=some (.lst (ts'.map trkT)):=by rw[jJh hta];exact i6
  refine⟨a,l,t,W,goS s' e,r,k0+1,ts',rfl,hgo,fine,sy,he1,fun x=>by show (x:Int)∈s'.ly↔_;rw[i8.ly];exact o1 x,ht3,by omega,i4,fun n G4 s2 hn lk w4 kp4=> ?_⟩
  have ht4:=kp4 _ _ hta ht3
  have he4:G4 en'=some (.lst ((endT (F++X) (rw_.take j)).map encE)):=kp4 _ _ hea (by rw[jJh hea];exact i7)
  have kp5:Kp [a,t,en'] G1 G4:=(i11.trans (.gup (by simp))).trans (.keep kp4 (by simp))
  have hn':NumAt (F++X) e.1 n:=by rw[<-i1];exact hn
  obtain⟨n1,n2,n3⟩:=hn'.mem
  have hlr:ts'.length=(F++X).length:=by rw[<-i1,jU2,List.length_map]
  have hFl:=jQ0 i3.nd i3.lt
  refine⟨_,jJm ht4,_,kUh,?_⟩
  rw[List.length_map,hlr]
  have hv:=kUs (F:=F) hej
  rw[<-i2] at hv
  by_cases hm:e.1∈F++X
  ·rw[if_neg (by rw[decide_eq_true_iff];exact fun z=>n1.mp z hm)]
   rw[if_pos (by simpa using hm)] at hv
   exact fin G4 s2 ts' X n i1 hv.symm i3 i4 (fun e' z=>by
    rw[hte,List.mem_append,List.mem_singleton] at z
    rcases z with z | rfl
    ·exact i5 e' z
    ·exact hm) (n2 hm) ⟨[],by rw[List.append_nil]⟩ ht4 he4 lk w4 kp5
  ·have hnl:=n1.mpr hm
   rw[if_pos (by rw[decide_eq_true_iff];exact hnl)]
   rw[if_neg (by simpa using hm)] at hv
   have hnew:jU2 r (ts'++[(ds++[j],es++[e])])=F++(X++[e.1]):=by rw[kYf,i1,kUb,hle,List.append_assoc];rfl
   have hpn:pth W r (ds++[j])=some (es++[e]):=by rw[kJ1 hp,hle,kYv hen];rfl
   refine⟨by rw[jKp ht4];trivial,_,rfl,by omega,qJo (by simp[jJn];omega) ⟨_,rfl,by omega,qJo (by have:=jQ9 hp;simp[jJn];omega) ?_⟩⟩
   have et:ts'.map trkT++[T.tup [T.tup (jJn ds++[T.int (j:Nat)]),T.tup (jJn (es.map (·.2))++[T.int (e.2:Nat)])]]=(ts'++[(ds++[j],es++[e])]).map trkT:=by
    rw[List.map_append];simp[trkT,jJn]
   refine⟨by omega,_,ht4,by rw[List.length_map,hlr];omega,?_⟩
   rw[et]
   refine fin _ s2 (ts'++[(ds++[j],es++[e])]) (X++[e.1]) n hnew (by rw[<-List.append_assoc];exact hv.symm) ?_ ?_ ?_ ?_ ⟨[e.1],by rw[List.append_assoc]⟩ jJe (by rw[jJh het];exact he4) lk (w4.mv (jJh hta.symm) (jJh hll.1)) (kp5.trans (.gup (by simp)))
   ·rw[<-List.append_assoc]
    refine⟨?_,?_,?_⟩
    ·rw[List.nodup_append];exact⟨i3.nd,by simp,fun a ha b hb=>by rw[List.mem_singleton] at hb;subst hb;rintro rfl;exact hm ha⟩
    ·intro x hx
     rw[List.mem_append,List.mem_singleton] at hx
     rcases hx with hx | rfl
     ·exact i3.lt x hx
     ·exact he1
    ·intro S h0 hc x hx
     rw[List.mem_append,List.mem_singleton] at hx
     rcases hx with hx | rfl
     ·exact i3.got S h0 hc x hx
     ·exact hc _ _ _ _ (fd.got S h0 hc qr hqF) hen
   ·intro y hy
    rw[List.mem_append,List.mem_singleton] at hy
    rcases hy with hy | rfl
    ·exact i4 y hy
    ·exact⟨hpn,by simp;omega⟩
   ·intro e' z
    rw[hte,List.mem_append,List.mem_singleton] at z
    rw[<-List.append_assoc]
    rcases z with z | rfl
    ·exact List.mem_append_left _ (i5 e' z)
    ·exact List.mem_append_right _ (by simp)
   ·rw[<-List.append_assoc,qQ5 hm];exact hnl
 ·intro τ G2 h_;apply xe6 h_;clear h_;intro v6 v7 v8 s' ts' X h_;apply ae11 h_;clear h_;intro i1 i2 i3 i4 i5 i6 i7 i8 i9 i10 i11
  rw[jVd] at i2 i5 i7 i9
  rw[List.take_length] at i2 i5 i7
  exact kk _ _ _ _ s' ts' X i1 i2 i3 i4 i5 i6 i7 i8 i9 i10 i11
theorem qKj:jY7=(tSeq (tAsg (tLst (jJb (tTup (jJb (tTup tNil) (jJb (tTup tNil) tNil))) tNil)) (jJi 1))
 (tSeq (tAsg (tLst tNil) (jJi 2))
 (tSeq (jV0 (jJw (tOp rLt (tCB rLen (jJb (tVar 2) tNil)) (tCB rLen (jJb (tVar 1) tNil)))) (tSeq (tAsg (tOp rIxF (tVar 1) (tCB rLen (jJb (tVar 2) tNil))) (jJi 3))
 (tSeq (tAsg (jJt kUy (jJb (tVar 0) (jJb (tOp rIxF (tVar 3) (tC (.int 0))) tNil))) (jJi 4))
 (tSeq (tAsg (tLst tNil) (jJi 5))
 (tSeq kYn
 (tSeq (jKb (jJt jK8 (jJb (tVar 0) (jJb (tVar 4) tNil))))
 (jKb (tBM "list" jKc (tVar 2) (jJb (tCB jJ5 (jJb (tVar 5) tNil)) tNil)))))))))
 (tRet (tCB jJ5 (jJb (tVar 2) tNil)))))):=rfl
def jYs (W:Web) (r:Nat):Web:=(bfs W r).map fun q=>endT (bfs W r) (row W q)
noncomputable def jUm:Sp3:=fun xs G Q=>∃(a l:Addr) (W:Web) (s:WS),xs=[.ref a]/\WkAt G a l W s/\AnyWeb W/\s.rm<W.length/\kXo s s.rm/\∀G' s',Like s s'->s.wk+((bfs W s.rm).map (dg W)).sum<=s'.wk->WkAt G' a l W s'->Keep a G G'->Q (encW (jYs W s.rm)) G'
theorem kJz:RdOk jUm jY7 kJk:=by
 intro xs G Q h_;apply xe4 h_;clear h_;intro a l W s h_;apply ae5 h_;clear h_;intro h aw hr o1 kk
 rw[show jKj kJk [.ref a]=[some (.ref a),none,none,none,none,none,none,none,none] from rfl,qKj]
 have hs:=sz
 have fine:=aw.fine
 have hW:=aw.len
 wp_walk using 1,jV0
 refine⟨Nat.zero_le _,Nat.zero_le _,by omega,by omega,fun t ht=>⟨Nat.zero_le _,fun tl htl=> ?_⟩⟩
 have hat:a≠t:=jJd h.1 ht
 have hlt:l≠t:=jJd h.2 ht
 obtain⟨htlt,htl0⟩:=jQn htl
 have hatl:a≠tl:=jJd h.1 htl0
 have hltl:l≠tl:=jJd h.2 htl0
 let P:Nat->St3->Gp->Prop:=fun m τ G'=>∃(k:Nat) (v3 v4 v5 v6 v7 v8:Option T) (ts:List Trk) (F:List Nat) (s':WS),τ=[some (.ref a),some (.ref t),some (.ref tl),v3,v4,v5,v6,v7,v8]/\m=W.length-k/\k<=F.length/\jU2 s.rm ts=F/\Found W s.rm F/\TrOk W s.rm k ts/\(∀q,q∈F.take k->∀e,e∈row W q->e.1∈F)/\bfs W s.rm=bfsN W (W.length-k) k F/\G' t=some (.lst (ts.map trkT))/\G' tl=some (.lst ((F.take k).map fun q=>encR (endT F (row W q))))/\Like s s'/\s.wk+((F.take k).map (dg W)).sum<=s'.wk/\WkAt G' a l W s'/\Keep a G G'
 refine⟨P,⟨W.length,0,none,none,none,none,none,none,[([],[])],[s.rm],s,rfl,rfl,Nat.zero_le _,rfl,⟨by simp,by simpa using hr,fun S h0 _ x hx=>by rw[List.mem_singleton] at hx;rw[hx];exact h0⟩,fun y hy=> ?_,fun q hq=>by simp at hq,rfl,?_,jJe,.refl _,Nat.le_refl _,h.mv ?_ ?_,?_⟩,?_⟩
 ·rw[List.mem_singleton.mp hy];exact⟨rfl,Nat.le_refl _⟩
 ·rw[jJh htlt.symm,jJe];rfl
 ·rw[jJh hatl,jJh hat]
 ·rw[jJh hltl,jJh hlt]
 ·exact (Keep.new ht).trans (.new htl)
 intro m τ G1 h_;apply xe10 h_;clear h_;intro k v3 v4 v5 v6 v7 v8 ts F s' h_;apply ae13 h_;clear h_;intro e0_ h0 h1 h2 h3 h4 h5 h6 h7 h8 h9 h10 h11
 subst e0_
 have hFl:=jQ0 h2.nd h2.lt
 have htsl:ts.length=F.length:=by rw[<-h1,jU2,List.length_map]
 refine⟨_,rfl,_,jJm h7,_,rfl,_,jJm h6,?_⟩
 have hl7:((F.take k).map fun q=>encR (endT F (row W q))).length=k:=by rw[List.length_map,List.length_take];omega
 rw[hl7,List.length_map,htsl]
 by_cases hk:k<F.length
 ·rw[if_pos (by omega)]
  let N:St3->Gp->Prop:=P (W.length-(k+1))
  refine⟨N,fun τ' G' hN=>⟨_,by omega,hN⟩,_,rfl,_,rfl,_,jJm h7,?_⟩
  rw[hl7]
  have hkt:k<ts.length:=by omega
  obtain⟨p1,p2⟩:=h3 ts[k] (List.getElem_mem hkt)
  have hFk:F[k]? =some (lst s.rm ts[k].2):=by rw[<-h1,jU2,List.getElem?_map,List.getElem?_eq_getElem hkt];rfl
  have htk:L2.atI (ts.map trkT) (k:Nat)=some (trkT ts[k]):=by rw[atN];simp[hkt]
  generalize ts[k]=tk at p1 p2 hFk htk
  obtain⟨ds,es⟩:=tk
  have hqF:lst s.rm es∈F:=List.mem_of_getElem? hFk
  have hqW:=h2.lt _ hqF
  obtain⟨rw_,hrow⟩:∃rw_,W[lst s.rm es]? =some rw_:=⟨_,List.getElem?_eq_getElem hqW⟩
  refine⟨_,(jQk h6).trans htk,_,rfl,_,rfl,_,rfl,?_⟩
  refine⟨a,l,W,s',ds,es,rfl,h10,fine,by rw[h8.rm];exact p1,by omega,fun p G2 hp0 hp2 w2 kp2=>⟨Nat.zero_le _,fun en' hen=> ?_⟩⟩
  obtain⟨y1,y2,y3,y4⟩:=wlk_rm (es:=es) (s:=s')
  have e1:=jJd w2.1 hen
  have e2:=jJd w2.2 hen
  have ht2:=kp2 _ _ hat.symm h6
  have htl2:=kp2 _ _ hatl.symm h7
  have e3:=jJd ht2 hen
  have e4:=jJd htl2 hen
  have e5:=jJd hp2 hen
  have pa:p≠a:=fun z=>by rw[z,h10.1] at hp0;cases hp0
  have pt:p≠t:=fun z=>by rw[z,h6] at hp0;cases hp0
  have ptl:p≠tl:=fun z=>by rw[z,h7] at hp0;cases hp0
  refine bsI_ok (r:=s.rm) (qr:=lst s.rm es) (k0:=k) (ts:=ts) (F:=F) (s1:=wlkS s' es) fine aw.sym hrow (aw.deg _ _ hrow) hW (w2.mv (jJh e1) (jJh e2)) (by rw[y1,h8.rm]) (fun x=>by rw[y3,h8.ly];exact o1 x) p1 rfl p2 (by omega) (by rw[jJh e3];exact ht2) h3 h1 h2 hqF jJe hat.symm e1.symm e3.symm ⟨hlt,e2⟩ ?_
  intro v6 v7 v8 G4 s4 ts' X q1 q2 q3 q4 q5 q6 q7 q8 q9 q10 q11
  have hp4:=q11 p _ (by simp[pa,pt,e5]) ((jJh e5).trans hp2)
  have htl4:=q11 tl _ (by simp[hatl.symm,htlt,e4]) ((jJh e4).trans htl2)
  obtain⟨bs,b1,b2,b3⟩:=jYg aw.sym p1
  wp_walk using 1,tSeq
  refine⟨a,l,W,s4,p,es.map (·.2),bs,rfl,q10,fine,hp4,by rw[q8.rm,y1,h8.rm];exact b1,fun G5 w5 kp5=> ?_⟩
  obtain⟨z1,z2,z3,z4⟩:=wlk_rm (es:=bs) (s:=s4)
  have htl5:=kp5 _ _ hatl.symm htl4
  have hen5:=kp5 _ _ e1.symm q7
  refine⟨by rw[jKp htl5];trivial,_,jJm hen5,_,htl5,by rw[hl7];omega,?_⟩
  have hF'k:(F++X)[k]? =some (lst s.rm es):=by rw[List.getElem?_append_left hk];exact hFk
  have htk1:(F++X).take (k+1)=F.take k++[lst s.rm es]:=by
   rw[List.take_succ,hF'k,List.take_append_of_le_length (by omega)];rfl
  have hFX:=jQ0 q3.nd q3.lt
  refine⟨k+1,_,_,_,_,_,_,ts',F++X,wlkS s4 bs,rfl,rfl,by rw[List.length_append];omega,q1,q3,q4,?_,?_,?_,?_,⟨?_,?_,?_,?_⟩,?_,?_,?_⟩
  ·intro q hq e he
   rw[htk1,List.mem_append,List.mem_singleton] at hq
   rcases hq with hq | rfl
   ·exact List.mem_append_left _ (h4 q hq e he)
   ·rw[jVi hrow] at he;exact q5 e he
  ·rw[h5,show W.length-k=W.length-(k+1)+1 by omega,jZq hFk,jVi hrow,q2]
  ·rw[jJh htlt.symm];exact kp5 _ _ hat.symm q6
  ·rw[jJe,htk1,List.map_append]
   have:(F.take k).map (fun q=>encR (endT (F++X) (row W q)))=(F.take k).map fun q=>encR (endT F (row W q)):=List.map_congr_left fun q hq=>by rw[kVq (h4 q hq)]
   rw[this]
   show _=some (GO.lst (_++[encR (endT (F++X) (row W (lst s.rm es)))]))
   rw[jVi hrow];rfl
  ·rw[z1,q8.rm,y1,h8.rm,b2]
  ·rw[z2,q8.hd,y2];exact h8.hd
  ·rw[z3,q8.ly,y3];exact h8.ly
  ·have:=h8.wk;have:=q8.wk;rw[z4];omega
  ·have hdg:dg W (lst s.rm es)=rw_.length:=by rw[dg,hrow];rfl
   rw[htk1,List.map_append,List.sum_append,z4]
   show s.wk+(((F.take k).map (dg W)).sum+(dg W (lst s.rm es)+0))<=_
   rw[hdg];omega
  ·exact w5.mv (jJh hatl) (jJh hltl)
  ·intro x o hx ho
   have g1:=h11 x o hx ho
   have g2:=kp2 x o hx g1
   have g3:(gup G2 en' (.lst [])) x=some o:=by rw[jJh (jJd g2 hen)];exact g2
   have g4:=q11 x o (by simp[hx,jJd ho ht,jJd g2 hen]) g3
   rw[jJh (jJd ho htl0)]
   exact kp5 x o hx g4
 ·rw[if_neg (by omega)]
  have hkF:k=F.length:=by omega
  have hb:bfs W s.rm=F:=by rw[h5,jZr (by omega)]
  rw[hkF,List.take_length] at h7 h9
  refine⟨_,rfl,_,jJm h7,?_⟩
  have:=kk G1 s' h8 (by rw[hb];exact h9) h10 h11
  unfold encW jYs at this
  rw[hb,List.map_map] at this
  exact this
theorem kY3 {F:List Nat}:numT (jJn F)=(List.range F.length).map fun i:Nat=>T.tup [.int (i:Nat),.int (F.getD i 0:Nat)]:=by
 apply List.ext_getElem?
 intro i
 by_cases hi:i<F.length
 ·rw[jYh (x:= .int (F[i]:Nat)) (by simp[jJn,hi]),List.getElem?_map,List.getElem?_range hi]
  show _=some (T.tup [T.int (i:Nat),T.int ((F.getD i 0:Nat):Int)])
  rw[show F.getD i 0=F[i] by simp[List.getD,hi]]
 ·rw[List.getElem?_eq_none (by rw[qKv];simp[jJn];omega),List.getElem?_eq_none (by simp;omega)]
def numK (F:List Nat):List (Int×T):=(List.range F.length).map fun i:Nat=>((F.getD i 0:Nat),T.int (i:Nat))
theorem kY4 {F:List Nat}:(numK F).map (·.1)=F.map fun n:Nat=>(n:Int):=by
 unfold numK
 apply List.ext_getElem?
 intro i
 by_cases hi:i<F.length
 ·simp[hi]
 ·rw[List.getElem?_eq_none (by simp;omega),List.getElem?_eq_none (by simp;omega)]
theorem ix_at {x:Nat}:∀ {F:List Nat},x∈F->F[ix F x]? =some x/\∀k,k<ix F x->F[k]? ≠some x
 | a::l,h=>by
  by_cases e:a=x
  ·rw[ix,if_pos e];exact⟨by rw[e];rfl,fun k hk=>absurd hk (Nat.not_lt_zero _)⟩
  ·rcases (List.mem_cons.mp h) with z | z
   ·exact absurd z.symm e
   ·obtain⟨h1,h2⟩:=ix_at z
    rw[ix,if_neg e]
    refine⟨by simpa using h1,fun k hk=> ?_⟩
    cases k with
    | zero=>intro q;exact e (by simpa using q)
    | succ k=>simpa using h2 k (by omega)
theorem jZ9 {κ:Type} [DecidableEq κ]:∀ {kvs:List (κ×T)} {k:κ} {v:T} {j:Nat},kvs[j]? =some (k,v)->(∀i p,i<j->kvs[i]? =some p->p.1≠k)->valT kvs k=some v
 | [],_,_,j,h,_=>by simp at h
 | p::r,k,v,0,h,_=>by
  have:p=(k,v):=by simpa using h
  subst this
  simp[valT]
 | p::r,k,v,j+1,h,h2=>by
  have e:p.1≠k:=h2 0 p (Nat.zero_lt_succ _) rfl
  have:=jZ9 (kvs:=r) (k:=k) (v:=v) (j:=j) (by simpa using h) fun i q hi hq=>h2 (i+1) q (by omega) (by simpa using hq)
  unfold valT at this ⊢
  rw[List.find?_cons_of_neg (by simpa using e)]
  exact this
theorem qVh {G:Gp} {p:Addr} {kvs:List (L2.Key×T)} {x:Int} {t:T} (h:G p=some (.dck kvs)) (hv:valT kvs (Sum.inl x)=some t):ixR G (.ref p) (.int x)=some t:=by
 simp only[ixR,seqT,h,asL,dAt,jXa,hv]
theorem kXv {F:List Nat} {x:Nat} (nd:F.Nodup) (hx:x∈F):valT ((numK F).map fun kv=>((Sum.inl kv.1:L2.Key),kv.2)) (Sum.inl (x:Int))=some (.int (ix F x:Nat)):=by
 obtain⟨h1,h2⟩:=ix_at hx
 have hl:ix F x<F.length:=(List.getElem?_eq_some_iff.mp h1).1
 have at_:∀i,i<F.length->((numK F).map fun kv=>((Sum.inl kv.1:L2.Key),kv.2))[i]? =some (Sum.inl ((F.getD i 0:Nat):Int),T.int (i:Nat)):=fun i hi=>by simp[numK,hi]
 refine jZ9 (j:=ix F x) ?_ fun i p hi hp=> ?_
 ·rw[at_ _ hl,show F.getD (ix F x) 0=x by simp[List.getD,h1]]
 ·rw[at_ i (by omega)] at hp
  cases hp
  intro z
  have z1:((F.getD i 0:Nat):Int)=(x:Int):=Sum.inl.inj z
  refine h2 i hi ?_
  rw[List.getElem?_eq_getElem (by omega)]
  congr 1
  have:F.getD i 0=F[i]'(by omega):=by simp[List.getD,show i<F.length by omega]
  omega
def jQd:Sp3:=fun xs G Q=>∃(W:Web) (r0:Nat),xs=[encW W,.int (r0:Nat)]/\Fine W/\r0<W.length/\∀G',Sub G G'->Q (encW (jYs W r0)) G'
def jXg:List Str:=["_law_web_here","_law_room","_law_order","_law_at","_law_end","_law_numbers","_law_k","_law_one"]
noncomputable def jVj:TS3:=
 (tSeq (tAsg (tLst (jJb (tVar 1) tNil)) (jJi 2))
 (tSeq (tAsg (tC (.int 0)) (jJi 3))
 (tSeq (jV0 (jJw (tOp rLt (tVar 3) (tCB rLen (jJb (tVar 2) tNil)))) (tSeq (tFor (iSeq (tOp rIxF (tVar 0) (tOp rIxF (tVar 2) (tVar 3)))) (jJi 4) (tIfS (jJw (tOp jQy (tOp rIxF (tVar 4) (tC (.int 0))) (tVar 2))) (jKb (tBM "list" jKc (tVar 2) (jJb (tOp rIxF (tVar 4) (tC (.int 0))) tNil))) jKn))
 (tAsg (tOp jKw (tVar 3) (tC (.int 1))) (jJi 3))))
 (tSeq (tAsg (tCB kYs (jJb (jQ3 [false,false,false,false,false,false,true,true] (kJ7 (jJb (tVar 2) tNil)) (gTup 2 (jVc (jJi 6) (jVc (jJi 7) gNil))) jUy (tTup (jJb (tVar 7) (jJb (tVar 6) tNil)))) tNil)) (jJi 5))
 (tRet (tCB jJ5 (jJb (jQ3 [false,false,false,false,false,false,false,true] (iSeq (tVar 2)) (jJi 7) jUy (tCB jJ5 (jJb (jQ3 [false,false,false,false,true,false,false,false] (iSeq (tOp rIxF (tVar 0) (tVar 7))) (jJi 4) jUy (tTup (jJb (tOp rIxF (tVar 5) (tOp rIxF (tVar 4) (tC (.int 0)))) (jJb (tOp rIxF (tVar 4) (tC (.int 1))) tNil)))) tNil))) tNil)))))))
noncomputable def kYk:TS3:=(tSeq (tAsg (tCB kYs (jJb (jQ3 [false,false,false,false,false,false,true,true] (kJ7 (jJb (tVar 2) tNil)) (gTup 2 (jVc (jJi 6) (jVc (jJi 7) gNil))) jUy (tTup (jJb (tVar 7) (jJb (tVar 6) tNil)))) tNil)) (jJi 5))
 (tRet (tCB jJ5 (jJb (jQ3 [false,false,false,false,false,false,false,true] (iSeq (tVar 2)) (jJi 7) jUy (tCB jJ5 (jJb (jQ3 [false,false,false,false,true,false,false,false] (iSeq (tOp rIxF (tVar 0) (tVar 7))) (jJi 4) jUy (tTup (jJb (tOp rIxF (tVar 5) (tOp rIxF (tVar 4) (tC (.int 0)))) (jJb (tOp rIxF (tVar 4) (tC (.int 1))) tNil)))) tNil))) tNil))))
theorem qKi:jVj=tSeq (tAsg (tLst (jJb (tVar 1) tNil)) (jJi 2)) (tSeq (tAsg (tC (.int 0)) (jJi 3)) (tSeq (jV0 (jJw (tOp rLt (tVar 3) (tCB rLen (jJb (tVar 2) tNil)))) (tSeq (tFor (iSeq (tOp rIxF (tVar 0) (tOp rIxF (tVar 2) (tVar 3)))) (jJi 4) (tIfS (jJw (tOp jQy (tOp rIxF (tVar 4) (tC (.int 0))) (tVar 2))) (jKb (tBM "list" jKc (tVar 2) (jJb (tOp rIxF (tVar 4) (tC (.int 0))) tNil))) jKn))
 (tAsg (tOp jKw (tVar 3) (tC (.int 1))) (jJi 3)))) kYk)):=rfl
theorem tf3_ok {D':Ends3} {G:Gp} {p:Addr} {W:Web} {F:List Nat} {v1 v3 v4:Option T} (fine:Fine W) (nd:F.Nodup) (hlt:∀x,x∈F->x<W.length) (cl:∀q,q∈F->∀e,e∈row W q->e.1∈F) (hp:G p=some (.lst (jJn F)))
  (kk:∀G',Sub G G'->D'.rt (encW (F.map fun q=>endT F (row W q))) G'):kYk D' [some (.tup (W.map encR)),v1,some (.ref p),v3,v4,none,none,none] G:=by
 have hs:=sz
 have hFl:=jQ0 nd hlt
 have hWl:=fine.len
 wp_walk using 1,kYk,kJ7,iSeq
 refine⟨_,by simp only[jUw,hp,asL];rfl,?_⟩
 rw[kY3]
 refine jUu (fun i:Nat=>T.tup [.int (F.getD i 0:Nat),.int (i:Nat)]) (by simp;omega) (fun G' s=>by simp only[jUw,s _ _ hp,asL]) ?_ ?_
 ·intro i k hk G' K K0 s hkk
  wp_walk using 1,tSeq
  exact⟨by omega,hkk _ (.refl _)⟩
 ·intro q G1 hq0 hq1 s1
  wp_walk using 1,tSeq
  have hq2:G1 q=some (.lst ((numK F).map fun kv=> .tup [.int kv.1,kv.2])):=by rw[hq1,numK,List.map_map];rfl
  refine⟨q,numK F,rfl,hq2,?_,by simp[numK];omega,fun nn hnn=> ?_⟩
  ·rw[kY4]
   exact List.Pairwise.map _ (fun a b h z=>h (by omega)) nd
  ·have s2:Sub G (gup G1 nn (.dck ((numK F).map fun kv=>(Sum.inl kv.1,kv.2)))):=s1.trans (.new hnn)
   have hn2:(gup G1 nn (.dck ((numK F).map fun kv=>((Sum.inl kv.1:L2.Key),kv.2)))) nn=some (.dck ((numK F).map fun kv=>(Sum.inl kv.1,kv.2))):=jJe
   generalize gup G1 nn (.dck ((numK F).map fun kv=>((Sum.inl kv.1:L2.Key),kv.2)))=G2 at s2 hn2
   have hp2:=s2 _ _ hp
   refine⟨_,jJm hp2,?_⟩
   refine jUu (es:=F) (enc:=fun n:Nat=>T.int (n:Nat)) (fun q=>encR (endT F (row W q))) (by omega) (fun G' s=>jJm (s _ _ hp2)) ?_ ?_
   ·intro i x hx G' K K0 s hkk
    have hxF:=List.mem_of_getElem? hx
    have hxW:=hlt x hxF
    obtain⟨es,hrow⟩:∃es,W[x]? =some es:=⟨_,List.getElem?_eq_getElem hxW⟩
    have hel:=fine.row x es hrow
    wp_walk using 1,iSeq,kKa hrow,encR
    refine jUu (es:=es) (enc:=encE) (fun e=>encE (ix F e.1,e.2)) (by omega) (fun _ _=>trivial) ?_ ?_
    ·intro j e he G'' K' K0' s' hkk'
     have heF:e.1∈F:=cl x hxF e (by rw[jVi hrow];exact List.mem_of_getElem? he)
     wp_walk using 1,encE
     exact⟨_,qVh (s' _ _ (s _ _ hn2)) (kXv nd heF),by omega,hkk' _ (.refl _)⟩
    ·intro w G3 hw0 hw3 s3
     wp_walk using 1,jJm hw3
     have:=hkk G3 s3
     unfold endT at this
     rw[jVi hrow,encR,List.map_map] at this
     exact this
   ·intro w G3 hw0 hw3 s3
    wp_walk using 1,jJm hw3
    have:=kk G3 (s2.trans s3)
    unfold encW at this
    rw[List.map_map] at this
    exact this
theorem jX3:RdOk jQd jVj jXg:=by
 intro xs G Q h_;apply xe2 h_;clear h_;intro W r0 h_;apply ae3 h_;clear h_;intro fine hr0 kk
 rw[show jKj jXg [encW W,.int (r0:Nat)]=[some (.tup (W.map encR)),some (.int (r0:Nat)),none,none,none,none,none,none] from rfl,qKi]
 have hs:=sz
 have hl:=fine.len
 wp_walk using 1,jV0,jK0
 refine⟨by omega,fun p hp=> ?_⟩
 let P:Nat->St3->Gp->Prop:=fun m τ G'=>∃(k:Nat) (v4:Option T) (F:List Nat),τ=[some (.tup (W.map encR)),some (.int (r0:Nat)),some (.ref p),some (.int (k:Nat)),v4,none,none,none]/\G' p=some (.lst (jJn F))/\Found W r0 F/\Sub G G'/\bfs W r0=bfsN W (W.length-k) k F/\m=W.length-k/\∀q,q∈F.take k->∀e,e∈row W q->e.1∈F
 refine⟨P,⟨_,0,none,[r0],rfl,jJe,⟨by simp,by simpa using hr0,fun S h0 _ x hx=>by rw[List.mem_singleton] at hx;rw[hx];exact h0⟩,.new hp,rfl,rfl,fun q hq=>by simp at hq⟩,?_⟩
 intro m τ G1 h_;apply xe3 h_;clear h_;intro k v4 F h_;apply ae6 h_;clear h_;intro h1 h2 h3 hB e4_ hcl
 subst e4_
 wp_walk using 1,iSeq,jJm h1,jQk h1
 have hFl:=jQ0 h2.nd h2.lt
 split
 ·rename_i hc
  have hat:k<F.length:=by rw[jJn,List.length_map] at hc;omega
  have hF:F[k]? =some F[k]:=List.getElem?_eq_getElem hat
  have hfm:F[k]∈F:=List.getElem_mem hat
  generalize F[k]=r at hF hfm
  have hrW:=h2.lt r hfm
  have hW:W[r]? =some W[r]:=List.getElem?_eq_getElem hrW
  generalize W[r]=es at hW
  have hatI:L2.atI (jJn F) (k:Nat)=some (.int (r:Nat)):=by rw[atN];simp[jJn,hF]
  wp_walk using 1,hatI,kKa hW,encR
  let N:St3->Gp->Prop:=P (W.length-(k+1))
  refine⟨N,fun τ' G' hN=>⟨_,by omega,hN⟩,?_⟩
  let J1:Nat->St3->Gp->Prop:=fun j τ G'=>∃(v4:Option T) (X:List Nat),τ=[some (.tup (W.map encR)),some (.int (r0:Nat)),some (.ref p),some (.int (k:Nat)),v4,none,none,none]/\G' p=some (.lst (jJn (F++X)))/\Found W r0 (F++X)/\Sub G G'/\F++X=vis F (es.take j)/\∀e,e∈es.take j->e.1∈F++X
  refine⟨J1,?_,?_,?_,?_⟩
  ·exact⟨_,[],rfl,by rw[List.append_nil];exact h1,by rw[List.append_nil];exact h2,h3,by rw[List.append_nil];rfl,fun e z=>by simp at z⟩
  ·intros;trivial
  ·intro j x τ G2 hx0 h_;apply xe2 h_;clear h_;intro v4 X h_;apply ae5 h_;clear h_;intro i1 i3 i4 iB i5
   obtain⟨e,hx,rfl⟩:=kJ4 hx0
   have hen:=jZn hW hx
   have hv:=kUs (F:=F) hx
   rw[<-iB] at hv
   have hte:es.take (j+1)=es.take j++[e]:=by rw[List.take_succ,hx];rfl
   wp_walk using 1,encE,jQy,qQb i1,jKp i1,i1
   by_cases hm:e.1∈F++X
   ·have hct:(F++X).contains e.1=true:=List.contains_iff_mem.mpr hm
    rw[if_neg (by rw[hct];decide)]
    rw[if_pos hct] at hv
    refine⟨_,X,rfl,i1,i3,i4,hv.symm,fun e' z=> ?_⟩
    rw[hte,List.mem_append,List.mem_singleton] at z
    rcases z with z | rfl
    ·exact i5 e' z
    ·exact hm
   ·have hct:(F++X).contains e.1=false:=by rw[<-Bool.not_eq_true,List.contains_iff_mem];exact hm
    rw[if_pos hct]
    rw[if_neg (by rw[hct];decide)] at hv
    have hFl:=jQ0 i3.nd i3.lt
    refine⟨by rw[jJn,List.length_map];omega,_,X++[e.1],rfl,by rw[jJe,<-List.append_assoc];simp[jJn],?_,i4.over hp,by rw[<-List.append_assoc];exact hv.symm,fun e' z=> ?_⟩
    ·rw[<-List.append_assoc]
     refine⟨?_,?_,?_⟩
     ·rw[List.nodup_append];exact⟨i3.nd,by simp,fun a ha b hb=>by rw[List.mem_singleton] at hb;subst hb;rintro rfl;exact hm ha⟩
     ·intro x hx
      rw[List.mem_append,List.mem_singleton] at hx
      rcases hx with hx | rfl
      ·exact i3.lt x hx
      ·exact fine.rng _ _ _ _ hen
     ·intro S h0 hc x hx
      rw[List.mem_append,List.mem_singleton] at hx
      rcases hx with hx | rfl
      ·exact i3.got S h0 hc x hx
      ·exact hc _ _ _ _ (h2.got S h0 hc r hfm) hen
    ·rw[hte,List.mem_append,List.mem_singleton] at z
     rw[<-List.append_assoc]
     rcases z with z | rfl
     ·exact List.mem_append_left _ (i5 e' z)
     ·exact List.mem_append_right _ (by simp)
  ·intro τ G' h_;apply xe2 h_;clear h_;intro v4 X h_;apply ae5 h_;clear h_;intro i1 i3 i4 iB i5
   wp_walk using 1,tSeq
   rw[List.length_map,List.take_length] at iB i5
   refine⟨k+1,_,F++X,rfl,i1,i3,i4,?_,rfl,fun q hq e he=> ?_⟩
   ·rw[hB,show W.length-k=W.length-(k+1)+1 by omega,jZq hF,jVi hW,iB]
   ·rw[List.take_succ,List.getElem?_append_left hat,hF,List.take_append_of_le_length (by omega)] at hq
    rcases (List.mem_append.mp hq) with hq | hq
    ·exact List.mem_append_left _ (hcl q hq e he)
    ·have:q=r:=by simpa using hq
     subst this
     rw[jVi hW] at he;exact i5 e he
 ·rename_i hc
  have hkF:F.length<=k:=by rw[jJn,List.length_map] at hc;omega
  have hb:bfs W r0=F:=by rw[hB,jZr hkF]
  rw[List.take_of_length_le hkF] at hcl
  refine tf3_ok fine h2.nd h2.lt hcl h1 fun G' s'=> ?_
  have:=kk G' (h3.trans s')
  unfold jYs at this
  rw[hb] at this
  exact this
theorem qQj {G:Gp} {x:T} (h:OkD 40 x) (hx:∀p,x≠ .ref p):eqG G x x=some true:=by
 have ok:eqOk x=true:=by
  unfold eqOk
  rw[h.tr,h.lay,decide_eq_true (show (td x).depth<=50 by have:=h.dep;omega)];rfl
 have e:eqG G x x=if eqOk x=true/\eqOk x=true then some (eqT x x) else none:=by
  cases x with
  | ref p=>exact absurd rfl (hx p)
  | _=>rfl
 rw[e,if_pos ⟨ok,ok⟩,kVp x h.tr]
structure Gone (W:Web) (s s':WS):Prop where
 rm:s'.rm<W.length
 hd:s'.hd=s.hd
 ly:s'.ly=s.ly
noncomputable def jU0:Sp3:=fun xs G Q=>∃(d c a l:Addr) (W:Web) (s:WS) (N:Nat),xs=[.ref d,.ref a]/\DrAt G d c N/\N+10<2^40/\WkAt G a l W s/\Fine W/\s.rm<W.length/\s.ly.length<64/\c≠l/\∀G' s',Gone W s s'->DrAt G' d c (N+10)->WkAt G' a l W s'->Kp [d,a] G G'->Q (.int (s'.rm:Nat)) G'
def kUo:List Str:=["_law_draw","_law_walker","_law_turn","_law_doors"]
noncomputable def jU5:TS3:=
 (tSeq (tFor (jQh (jJb (jJt jJq (jJb (tVar 0) (jJb (tC (.int 4)) tNil))) tNil)) (jJi 2) (tSeq (tAsg (tOp rIxF (jJ0 "Walker" "here" jJo (tVar 1) tNil) (tC (.int 0))) (jJi 3))
 (tIfS (jJw (tOp rGt (tVar 3) (tC (.int 0)))) (jKb (jJ0 "Walker" "go" jJx (tVar 1) (jJb (jJt jJq (jJb (tVar 0) (jJb (tVar 3) tNil))) tNil))) jKn)))
 (tRet (tOp rIxF (jJt jKq (jJb (tVar 1) tNil)) (tC (.int 0)))))
theorem jZy:RdOk jU0 jU5 kUo:=by
 intro xs G Q h_;apply xe7 h_;clear h_;intro d c a l W s N h_;apply ae8 h_;clear h_;intro hd hN h fine hr hly hcl kk
 show jU5 _ [some (.ref d),some (.ref a),none,none] G
 have hs:=sz
 have hda:d≠a:=by obtain⟨cs,x,y,e1,_⟩:=hd;rintro rfl;rw[h.1] at e1;cases e1
 have hdl:d≠l:=by obtain⟨cs,x,y,e1,_⟩:=hd;rintro rfl;rw[h.2] at e1;cases e1
 have hca:c≠a:=by obtain⟨cs,x,y,_,e1,_⟩:=hd;rintro rfl;rw[h.1] at e1;cases e1
 wp_walk using 1,jU5,jK0,jQh,jJ0
 refine⟨d,c,4,N,rfl,hd,by omega,by decide,by decide,fun m G1 m0 m1 dr1 kp1=> ?_⟩
 obtain⟨m,rfl⟩:=Int.eq_ofNat_of_zero_le m0
 refine⟨_,rfl,by omega,by omega,?_⟩
 rw[show ((m:Nat):Int).toNat=m from rfl]
 let J1:Nat->St3->Gp->Prop:=fun i τ G'=>∃(v2 v3:Option T) (s':WS),τ=[some (.ref d),some (.ref a),v2,v3]/\Gone W s s'/\DrAt G' d c (N+1+i)/\WkAt G' a l W s'/\Kp [d,a] G G'
 refine⟨J1,?_,?_,?_,?_⟩
 ·exact⟨_,_,s,rfl,⟨hr,rfl,rfl⟩,dr1,⟨kp1 _ _ hda.symm h.1,kp1 _ _ hdl.symm h.2⟩,.keep kp1 (by simp)⟩
 ·intros;trivial
 ·intro i x τ G2 hx h_;apply xe3 h_;clear h_;intro v2 v3 s' h_;apply ae4 h_;clear h_;intro g1 g2 g3 g4
  obtain⟨hi,rfl⟩:=jQr hx
  obtain⟨row,hrow⟩:∃row,W[s'.rm]? =some row:=⟨_,List.getElem?_eq_getElem g1.rm⟩
  have hdg:dg W s'.rm=row.length:=by rw[dg,hrow];rfl
  have hrl:=fine.row _ _ hrow
  wp_walk using 1,jJ0
  refine⟨jK4 g3.1,a,l,W,s',rfl,g3,g1.rm,_,here_at.1,_,rfl,?_⟩
  rw[hdg]
  by_cases hz:0<row.length
  ·rw[if_pos (by omega)]
   refine⟨jK4 g3.1,d,c,_,_,rfl,g2,by omega,by omega,by omega,fun y G3 y0 y1 dr3 kp3=> ?_⟩
   obtain⟨y,rfl⟩:=Int.eq_ofNat_of_zero_le y0
   have hy:y<row.length:=by omega
   have w3:WkAt G3 a l W s':=⟨kp3 _ _ hda.symm g3.1,kp3 _ _ hdl.symm g3.2⟩
   have he:en W s'.rm y=some row[y]:=jZn hrow (List.getElem?_eq_getElem hy)
   refine⟨a,l,W,s',y,row[y],rfl,w3,fine,he,_,_,goS s' row[y],rfl,⟨fine.rng _ _ _ _ he,g1.hd,g1.ly⟩,(dr3.gup hda hca).mono (by omega),w3.go,(g4.trans (.keep kp3 (by simp))).trans (.gup (by simp))⟩
  ·rw[if_neg (by omega)]
   exact⟨_,_,s',rfl,g1,g2.mono (by omega),g3,g4⟩
 ·intro τ G2 h_;apply xe3 h_;clear h_;intro v2 v3 s' h_;apply ae4 h_;clear h_;intro g1 g2 g3 g4
  rw[jVd] at g2
  wp_walk using 1,tSeq
  refine⟨a,l,W,s',rfl,g3,by rw[g1.ly];exact hly,fun G3 s3=>⟨_,rfl,?_⟩⟩
  exact kk G3 s' g1 ((g2.sub s3).mono (by omega)) ⟨s3 _ _ g3.1,s3 _ _ g3.2⟩ (g4.trans (.sub s3))
def PlN:Nat->T->Prop
 | 0,t=>∃i,t= .int i
 | n+1,t=>(∃i,t= .int i)\/∃ts,t= .tup ts/\ts.length<=2000/\∀u,u∈ts->PlN n u
def jZw (n:Nat):Sp3:=fun xs G Q=>∃t,xs=[t,t]/\PlN n t/\∀G',Sub G G'->Q (.bl true) G'
section
variable (jQg:Sp3)
def jYr:List Str:=["_law_found","_law_due","_law_one","_law_other"]
noncomputable def jUf:TS3:=
 (tSeq (tIfS (jJw (tCB rIsi (jJb (tVar 1) (jJb (tC (.ty "tuple")) tNil)))) (tSeq (tIfS (tOr (tNot (jJw (tCB rIsi (jJb (tVar 0) (jJb (tC (.ty "tuple")) tNil))))) (jJw (tOp rNeA (tCB rLen (jJb (tVar 0) tNil)) (tCB rLen (jJb (tVar 1) tNil))))) (tRet (tC (.bl false))) jKn)
 (tRet (tCB rAll (jJb (jQ3 [false,false,true,true] (iZip (jJb (tVar 0) (jJb (tVar 1) tNil))) (gTup 2 (jVc (jJi 2) (jVc (jJi 3) gNil))) jUy (jJt jQg (jJb (tVar 2) (jJb (tVar 3) tNil)))) tNil)))) jKn)
 (tRet (kJo (tCB rIsi (jJb (tVar 0) (jJb (tC (.ty "int")) tNil))) (kJo (qUk (tCB rIsi (jJb (tVar 0) (jJb (tC (.ty "bool")) tNil)))) (tOp rEqA (tVar 0) (tVar 1))))))
end
theorem qVk {G:Gp} {i:Int}:isiT G (.int i) (.ty "tuple")=some false/\isiT G (.int i) (.ty "int")=some true/\isiT G (.int i) (.ty "bool")=some false:=⟨rfl,rfl,rfl⟩
theorem qVj {G:Gp} {ts:List T}:isiT G (.tup ts) (.ty "tuple")=some true:=rfl
theorem kZ2 {G:Gp} {a:Int}:eqG G (.int a) (.int a)=some true:=by rw[jXd,decide_eq_true rfl]
theorem jXy (sp:Sp3):∀xs G Q,jZw 0 xs G Q->jUf sp {nx:=fun _ G'=>Q .non G',rt:=Q} (jKj jYr xs) G:=by
 intro xs G Q h_;apply xe1 h_;clear h_;intro t h_;apply ae2 h_;clear h_;intro q0_ kk
 obtain⟨i,rfl⟩:=q0_
 show jUf _ _ [some (.int i),some (.int i),none,none] G
 have hs:=sz
 wp_walk using 1,jUf,rIsi,rEqA,kZ2,qVk
 exact kk G (.refl _)
theorem qJu {ts:List T}:zipT ts ts=ts.map fun t=>T.tup [t,t]:=by
 unfold zipT
 induction ts with
 | nil=>rfl
 | cons a as ih=>rw[List.zip_cons_cons,List.map_cons,ih];rfl
theorem jVq (n:Nat):∀xs G Q,jZw (n+1) xs G Q->jUf (jZw n) {nx:=fun _ G'=>Q .non G',rt:=Q} (jKj jYr xs) G:=by
 intro xs G Q h_;apply xe1 h_;clear h_;intro t h_;apply ae2 h_;clear h_;intro ht kk
 rcases ht with h | ⟨ts,rfl,hl,hts⟩
 ·exact jXy _ _ _ _ ⟨t,rfl,h,kk⟩
 ·rw[show jKj jYr [.tup ts,.tup ts]=[some (.tup ts),some (.tup ts),none,none] from rfl]
  have hs:=sz
  wp_walk using 1,jUf,rIsi,rEqA,rNeA,iZip,qVj,kZ2
  rw[qJu]
  refine jUu (fun _=>T.bl true) (by omega) (fun _ _=>trivial) ?_ ?_
  ·intro i t ht G' K K0 s hk
   wp_walk using 1,tSeq
   exact⟨t,rfl,hts t (List.mem_of_getElem? ht),fun G4 s4=>hk G4 s4⟩
  ·intro D G' hD h1 h2
   refine⟨D,_,_,rfl,h1,kQl (f:=fun _=>true),?_⟩
   rw[List.all_eq_true.mpr (fun _ _=>rfl)]
   exact kk G' h2
theorem pl_int {n:Nat} {i:Int}:PlN n (.int i):=by
 cases n with
 | zero=>exact⟨i,rfl⟩
 | succ n=>exact .inl ⟨i,rfl⟩
theorem pl_web {W:Web} (h1:W.length<=1000) (h2:∀es,es∈W->es.length<=1000):PlN 3 (encW W):=by
 refine .inr ⟨_,rfl,by rw[List.length_map];omega,fun u hu=> ?_⟩
 obtain⟨es,hes,rfl⟩:=List.mem_map.mp hu
 refine .inr ⟨_,rfl,by have:=h2 es hes;rw[List.length_map];omega,fun u hu=> ?_⟩
 obtain⟨e,_,rfl⟩:=List.mem_map.mp hu
 refine .inr ⟨_,rfl,by simp,fun u hu=> ?_⟩
 simp only[List.not_mem_nil,List.mem_cons,or_false] at hu
 rcases hu with rfl | rfl<;>exact pl_int
abbrev jQg:Sp3:=jZw 3
theorem kXu {W:Web} {r q:Nat} (fine:Fine W):∀ {es:List (Nat×Nat)} {F:List Nat},Found W r F->q∈F->(∀e,e∈es->∃i,en W q i=some e)->∃X,vis F es=F++X/\Found W r (F++X)/\∀e,e∈es->e.1∈F++X
 | [],F,fd,_,_=>⟨[],by rw[List.append_nil];rfl,by rw[List.append_nil];exact fd,fun e z=>(nomatch z)⟩
 | e::es,F,fd,hq,he=>by
  obtain⟨i,hi⟩:=he e (List.mem_cons_self ..)
  by_cases hm:e.1∈F
  ·obtain⟨X,x1,x2,x3⟩:=kXu fine (es:=es) fd hq fun e' z=>he e' (List.mem_cons_of_mem _ z)
   refine⟨X,?_,x2,fun e' z=> ?_⟩
   ·have:vis F (e::es)=vis (if F.contains e.1=true then F else F++[e.1]) es:=rfl
    rw[this,if_pos (List.contains_iff_mem.mpr hm)];exact x1
   ·rcases (List.mem_cons.mp z) with rfl | z
    ·exact List.mem_append_left _ hm
    ·exact x3 e' z
  ·have fd':Found W r (F++[e.1]):=by
    refine⟨?_,?_,?_⟩
    ·rw[List.nodup_append];exact⟨fd.nd,by simp,fun a ha b hb=>by rw[List.mem_singleton] at hb;subst hb;rintro rfl;exact hm ha⟩
    ·intro x hx
     rw[List.mem_append,List.mem_singleton] at hx
     rcases hx with hx | rfl
     ·exact fd.lt x hx
     ·exact fine.rng _ _ _ _ hi
    ·intro S h0 hc x hx
     rw[List.mem_append,List.mem_singleton] at hx
     rcases hx with hx | rfl
     ·exact fd.got S h0 hc x hx
     ·exact hc _ _ _ _ (fd.got S h0 hc q hq) hi
   obtain⟨X,x1,x2,x3⟩:=kXu fine (es:=es) fd' (List.mem_append_left _ hq) fun e' z=>he e' (List.mem_cons_of_mem _ z)
   refine⟨[e.1]++X,?_,by rw[<-List.append_assoc];exact x2,fun e' z=> ?_⟩
   ·have:vis F (e::es)=vis (if F.contains e.1=true then F else F++[e.1]) es:=rfl
    have hct:F.contains e.1=false:=by rw[<-Bool.not_eq_true,List.contains_iff_mem];exact hm
    rw[this,if_neg (by rw[hct];decide),<-List.append_assoc];exact x1
   ·rw[<-List.append_assoc]
    rcases (List.mem_cons.mp z) with rfl | z
    ·exact List.mem_append_left _ (List.mem_append_right _ (by simp))
    ·exact x3 e' z
theorem qJm {W:Web} {r:Nat} (fine:Fine W):∀(n k:Nat) (F:List Nat),Found W r F->r∈F->(∀q,q∈F.take k->∀e,e∈row W q->e.1∈F)->W.length<=n+k->Found W r (bfsN W n k F)/\r∈bfsN W n k F/\∀q,q∈bfsN W n k F->∀e,e∈row W q->e.1∈bfsN W n k F
 | 0,k,F,fd,hr,cl,hk=>by
  have:=jQ0 fd.nd fd.lt
  rw[List.take_of_length_le (by omega)] at cl
  exact⟨fd,hr,cl⟩
 | n+1,k,F,fd,hr,cl,hk=>by
  cases e:F[k]? with
  | none=>
   have hl:F.length<=k:=List.getElem?_eq_none_iff.mp e
   rw[List.take_of_length_le hl] at cl
   rw[jZr hl]
   exact⟨fd,hr,cl⟩
  | some q=>
   have hqF:=List.mem_of_getElem? e
   have hqW:=fd.lt q hqF
   obtain⟨es,hrow⟩:∃es,W[q]? =some es:=⟨_,List.getElem?_eq_getElem hqW⟩
   have hkl:k<F.length:=(List.getElem?_eq_some_iff.mp e).1
   obtain⟨X,x1,x2,x3⟩:=kXu fine (q:=q) (es:=row W q) fd hqF fun e' z=>by
    rw[jVi hrow] at z
    obtain⟨i,hi⟩:=List.getElem?_of_mem z
    exact⟨i,jZn hrow hi⟩
   rw[jZq e,x1]
   refine qJm fine n (k+1) (F++X) x2 (List.mem_append_left _ hr) (fun q' hq' e' he'=> ?_) (by omega)
   rw[List.take_succ,List.getElem?_append_left hkl,e,List.take_append_of_le_length (by omega)] at hq'
   rcases (List.mem_append.mp hq') with z | z
   ·exact List.mem_append_left _ (cl q' z e' he')
   ·have:q'=q:=by simpa using z
    subst this
    exact x3 e' he'
theorem qJl {W:Web} (aw:AnyWeb W) {r:Nat} (hr:r<W.length):(bfs W r).Perm (List.range W.length):=by
 obtain⟨fd,hrF,cl⟩:=qJm aw.fine W.length 0 [r] ⟨by simp,by simpa using hr,fun S h0 _ x hx=>by rw[List.mem_singleton] at hx;rw[hx];exact h0⟩ (by simp) (fun q hq=>by simp at hq) (by omega)
 have cl':∀x i y j,x∈bfs W r->en W x i=some (y,j)->y∈bfs W r:=fun x i y j hx he=>by
  obtain⟨es,h1,h2⟩:=jUt he
  exact cl x hx (y,j) (by rw[jVi h1];exact List.mem_of_getElem? h2)
 have all:=aw.conn (fun x=>x∈bfs W r↔0∈bfs W r) Iff.rfl fun x i y j hx he=>by
  rw[<-hx]
  exact⟨fun z=>cl' y j x i z (aw.sym _ _ _ _ he),fun z=>cl' x i y j z he⟩
 have h0:0∈bfs W r:=(all r hr).mp hrF
 refine (List.perm_ext_iff_of_nodup fd.nd List.nodup_range).mpr fun x=> ?_
 rw[List.mem_range]
 exact⟨fun z=>fd.lt x z,fun z=>(all x z).mpr h0⟩
theorem kQq {W:Web} (aw:AnyWeb W) {r:Nat} (hr:r<W.length):PlN 3 (encW (jYs W r)):=by
 have p:=qJl aw hr
 have hl:=p.length_eq
 rw[List.length_range] at hl
 have:=aw.len
 refine pl_web (by rw[jYs,List.length_map];omega) fun es hes=> ?_
 obtain⟨q,hq,rfl⟩:=List.mem_map.mp hes
 have hqW:q<W.length:=by rw[p.mem_iff,List.mem_range] at hq;exact hq
 rw[endT,List.length_map,jVi (List.getElem?_eq_getElem hqW)]
 have:=aw.deg q _ (List.getElem?_eq_getElem hqW)
 omega
noncomputable def jK1:SpX:=fun xs G Q R=>∃(a l:Addr) (W:Web) (s:WS),xs=[.ref a]/\WkAt G a l W s/\AnyWeb W/\s.rm<W.length/\(s.hd=0->R "NoStone" G)/\(0<s.hd->s.ly=[]/\∀G' s',Like s s'->WkAt G' a l W s'->Kp [a,l] G G'->Q (encW (jYs W s.rm)) G')
theorem kQ9:kXr jK1:=by
 rintro xs G Q Q' R R' hq hr ⟨a,l,W,s,e,h1,h2,h3,h4,h5⟩
 exact⟨a,l,W,s,e,h1,h2,h3,fun z=>hr _ _ (h4 z),fun z=>⟨(h5 z).1,fun G' s' x y w=>hq _ _ ((h5 z).2 G' s' x y w)⟩⟩
def qQt:List Str:=["walker","told"]
noncomputable def jY4 (R:XK3):TS3:=
 (tSeq (tIfS (jJw (tOp rEqA (jJ0 "Walker" "in_hand" jJ4 (tVar 0) tNil) (tC (.int 0)))) (jYt R "NoStone") jKn)
 (tSeq (jKb (jJ0 "Walker" "lay" jKt (tVar 0) tNil))
 (tSeq (tAsg (jJt jUm (jJb (tVar 0) tNil)) (jJi 1))
 (tSeq (jKb (jJ0 "Walker" "take" jKv (tVar 0) tNil))
 (tRet (tVar 1))))))
theorem kQz:∀xs G Q R,jK1 xs G Q R->jY4 R {nx:=fun _ G'=>Q .non G',rt:=Q} (jKj qQt xs) G:=by
 intro xs G Q R h_;apply xe4 h_;clear h_;intro a l W s h_;apply ae5 h_;clear h_;intro h aw hr k0 k1
 show jY4 _ _ [some (.ref a),none] G
 have hs:=sz
 wp_walk using 1,jY4,jJ0,rEqA,jYt
 refine⟨jK4 h.1,a,l,W,s,rfl,h,_,jXd,?_⟩
 by_cases hh:s.hd=0
 ·rw[if_pos (by simp[hh])];exact k0 hh
 rw[if_neg (by simp;omega)]
 obtain⟨hly,kk⟩:=k1 (by omega)
 refine⟨jK4 h.1,a,l,W,s,rfl,h,hr,by omega,by rw[hly];decide,?_⟩
 have w1:WkAt (gup (gup G a (wkG W l (layS s))) l (.lst (jJu (layS s).ly))) a l W (layS s):=⟨by rw[jJh h.ne,jJe],jJe⟩
 have ly1:(layS s).ly=[(s.rm:Int)]:=by simp[layS,hly]
 have o1:kXo (layS s) s.rm:=fun x=>by rw[ly1,List.mem_singleton];omega
 refine⟨a,l,W,layS s,rfl,w1,aw,hr,o1,fun G2 s2 lk hw w2 kp2=> ?_⟩
 have ly2:s2.ly=[(s.rm:Int)]:=lk.ly.trans ly1
 have rm2:s2.rm=s.rm:=lk.rm
 refine⟨jK4 w2.1,a,l,W,s2,rfl,w2,by rw[rm2];exact hr,by rw[ly2,rm2];simp,?_⟩
 have hi:[(s.rm:Int)].idxOf? (s.rm:Int)=some 0:=by simp[List.idxOf?]
 have ly3:(jQi s2).ly=[]:=by simp only[jQi,ly2,rm2,hi];rfl
 have hd2:s2.hd=s.hd-1:=lk.hd
 have wk2:s.wk<=s2.wk:=lk.wk
 refine kk _ (jQi s2) ⟨rm2,?_,ly3.trans hly.symm,wk2⟩ ⟨jJe,by rw[jJh h.ne.symm,jJe]⟩ ?_
 ·show s2.hd+1=_;omega
 ·intro x o hx ho
  simp only[List.mem_cons,List.not_mem_nil,or_false,not_or] at hx
  rw[jJh hx.1,jJh hx.2]
  exact kp2 x o hx.1 (by rw[jJh hx.2,jJh hx.1];exact ho)
noncomputable def jQp:SpX:=fun xs G Q R=>∃(a l:Addr) (W:Web) (s:WS),xs=[.ref a]/\WkAt G a l W s/\AnyWeb W/\s.rm<W.length/\(s.hd=0->R "NoStone" G)/\(0<s.hd->s.ly=[]/\∀G' s',Like s s'->WkAt G' a l W s'->Kp [a,l] G G'->Q (.int (W.length:Nat)) G')
theorem kKz:kXr jQp:=by
 rintro xs G Q Q' R R' hq hr ⟨a,l,W,s,e,h1,h2,h3,h4,h5⟩
 exact⟨a,l,W,s,e,h1,h2,h3,fun z=>hr _ _ (h4 z),fun z=>⟨(h5 z).1,fun G' s' x y w=>hq _ _ ((h5 z).2 G' s' x y w)⟩⟩
def qJs:List Str:=["walker"]
noncomputable def jXo (R:XK3):TS3:=
 (tRet (tCB rLen (jJb (jQw jK1 R (jJb (tVar 0) tNil)) tNil)))
theorem kKq:∀xs G Q R,jQp xs G Q R->jXo R {nx:=fun _ G'=>Q .non G',rt:=Q} (jKj qJs xs) G:=by
 intro xs G Q R h_;apply xe4 h_;clear h_;intro a l W s h_;apply ae5 h_;clear h_;intro h aw hr k0 k1
 show jXo _ _ [some (.ref a)] G
 have hs:=sz
 wp_walk using 1,jXo,jQw
 refine⟨a,l,W,s,rfl,h,aw,hr,k0,fun hh=>⟨(k1 hh).1,fun G1 s1 lk w1 kp1=>⟨_,rfl,?_⟩⟩⟩
 have e:((jYs W s.rm).map encR).length=W.length:=by rw[List.length_map,jYs,List.length_map,(qJl aw hr).length_eq,List.length_range]
 rw[e]
 exact (k1 hh).2 G1 s1 lk w1 kp1
noncomputable def jKf:SpX:=fun xs G Q R=>∃(a l:Addr) (W:Web) (s:WS) (m:T),xs=[.ref a,m]/\WkAt G a l W s/\AnyWeb W/\s.rm<W.length/\(s.ly.count (s.rm:Int)=0->R "NoStone" G)/\(0<s.ly.count (s.rm:Int)->s.ly=[(s.rm:Int)]/\∀G' s',Like s s'->WkAt G' a l W s'->Keep a G G'->Q (encW (jYs W s.rm)) G')
theorem jXr:kXr jKf:=by
 rintro xs G Q Q' R R' hq hr ⟨a,l,W,s,m,e,h1,h2,h3,h4,h5⟩
 exact⟨a,l,W,s,m,e,h1,h2,h3,fun z=>hr _ _ (h4 z),fun z=>⟨(h5 z).1,fun G' s' x y w=>hq _ _ ((h5 z).2 G' s' x y w)⟩⟩
def jZ7:List Str:=["walker","most"]
noncomputable def jQs (R:XK3):TS3:=
 (tSeq (tIfS (jJw (tOp rEqA (tOp rIxF (jJ0 "Walker" "here" jJo (tVar 0) tNil) (tC (.int 2))) (tC (.int 0)))) (jYt R "NoStone") jKn)
 (tRet (jJt jUm (jJb (tVar 0) tNil))))
theorem jXk:∀xs G Q R,jKf xs G Q R->jQs R {nx:=fun _ G'=>Q .non G',rt:=Q} (jKj jZ7 xs) G:=by
 intro xs G Q R h_;apply xe5 h_;clear h_;intro a l W s m h_;apply ae5 h_;clear h_;intro h aw hr k0 k1
 show jQs _ _ [some (.ref a),some m] G
 have hs:=sz
 wp_walk using 1,jQs,jJ0,rEqA,jYt
 refine⟨jK4 h.1,a,l,W,s,rfl,h,hr,_,here_at.2,_,jXd,?_⟩
 by_cases hh:s.ly.count (s.rm:Int)=0
 ·rw[if_pos (by simp[hh])];exact k0 hh
 rw[if_neg (by simp only[decide_eq_true_eq];omega)]
 obtain⟨hly,kk⟩:=k1 (by omega)
 exact⟨a,l,W,s,rfl,h,aw,hr,fun x=>by rw[hly,List.mem_singleton];omega,fun G' s' lk hw w kp=>kk G' s' lk w kp⟩
def Rf (s:WS) (k:Nat):Prop:=if k<2 then s.hd=0 else s.ly.count (s.rm:Int)=0
def jUz:Sp3:=fun xs G Q=>∃(a l:Addr) (W:Web) (s:WS) (k:Nat),xs=[.ref a,.int (k:Nat)]/\WkAt G a l W s/\AnyWeb W/\s.rm<W.length/\Rf s k/\∀G',Sub G G'->Q (.bl true) G'
def kUn:List Str:=["_law_walker","_law_which","_law_caught","error"]
noncomputable def jU4:TS3:=
 (tSeq (tAsg (tC .non) (jJi 2))
 (tSeq (tTry 3 ["NoStone"] (tIfX (jJw (tOp rEqA (tVar 1) (tC (.int 0)))) (kKm (kX5 jK1 (jJb (tVar 0) tNil))) (tIfX (jJw (tOp rEqA (tVar 1) (tC (.int 1)))) (kKm (kX5 jQp (jJb (tVar 0) tNil))) (kKm (kX5 jKf (jJb (tVar 0) (jJb (tC (.int 5)) tNil)))))) (tAsg (tVar 3) (jJi 2)))
 (tSeq (tIfS (jJw (kV2 [("NoStone",false)] (tVar 2))) (tRet (tC (.bl false))) jKn)
 (tRet (kJo (kV2 [("NoStone",true)] (tVar 2)) (kV2 [("NoStone",true)] (tVar 2)))))))
theorem jZx:RdOk jUz jU4 kUn:=by
 intro xs G Q h_;apply xe5 h_;clear h_;intro a l W s k h_;apply ae5 h_;clear h_;intro h aw hr rf kk
 show jU4 _ [some (.ref a),some (.int (k:Nat)),none,none] G
 have hs:=sz
 wp_walk using 1,jU4,tTry,tIfX,kKm,kX5,kV2,rEqA
 have fin:∀b,G b=none->Q (.bl true) (gup G b (.exc "NoStone")):=fun b hb=>kk _ (.new hb)
 unfold Rf at rf
 refine⟨_,jXd,?_⟩
 by_cases k0:k=0
 ·rw[if_pos (by simp[k0])]
  rw[if_pos (by omega)] at rf
  refine⟨a,l,W,s,rfl,h,aw,hr,fun _=>⟨List.mem_singleton.mpr rfl,fun b hb=> ?_⟩,fun z=>absurd z (by omega)⟩
  refine⟨_,rfl,false,List.mem_singleton.mpr rfl,?_⟩
  rw[if_neg (by decide)]
  refine⟨_,rfl,true,List.mem_singleton.mpr rfl,?_⟩
  rw[if_pos rfl]
  exact⟨_,rfl,true,List.mem_singleton.mpr rfl,fin b hb⟩
 rw[if_neg (by simp;omega)]
 refine⟨_,jXd,?_⟩
 by_cases k1:k=1
 ·rw[if_pos (by simp[k1])]
  rw[if_pos (by omega)] at rf
  refine⟨a,l,W,s,rfl,h,aw,hr,fun _=>⟨List.mem_singleton.mpr rfl,fun b hb=> ?_⟩,fun z=>absurd z (by omega)⟩
  refine⟨_,rfl,false,List.mem_singleton.mpr rfl,?_⟩
  rw[if_neg (by decide)]
  refine⟨_,rfl,true,List.mem_singleton.mpr rfl,?_⟩
  rw[if_pos rfl]
  exact⟨_,rfl,true,List.mem_singleton.mpr rfl,fin b hb⟩
 rw[if_neg (by simp;omega)]
 rw[if_neg (by omega)] at rf
 refine⟨a,l,W,s,_,rfl,h,aw,hr,fun _=>⟨List.mem_singleton.mpr rfl,fun b hb=> ?_⟩,fun z=>absurd z (by omega)⟩
 refine⟨_,rfl,false,List.mem_singleton.mpr rfl,?_⟩
 rw[if_neg (by decide)]
 refine⟨_,rfl,true,List.mem_singleton.mpr rfl,?_⟩
 rw[if_pos rfl]
 exact⟨_,rfl,true,List.mem_singleton.mpr rfl,fin b hb⟩
mutual
theorem kVn {G:Gp}:∀ {x:T} {d:PyData},RdG G x d->PyData.eqv d d=true
 | _,_,.non=>rfl
 | _,_,.bl b=>by simp[PyData.eqv]
 | _,_,.int i=>by simp[PyData.eqv]
 | _,_,.str x=>by simp[PyData.eqv]
 | _,_,.tup h=>jZm h
 | _,_,.lst _ h=>jZm h
theorem jZm {G:Gp}:∀ {xs:List T} {ds:List PyData},RdGs G xs ds->PyData.eqvAll ds ds=true
 | _,_,.nil=>rfl
 | _,_,.cons h hs=>by
  show (PyData.eqv _ _&&PyData.eqvAll _ _)=true
  rw[kVn h,jZm hs];rfl
end
theorem kU4 {G:Gp}:∀is:List Int,RdGs G (jJu is) (is.map PyData.int)/\PyData.canLayAll0 (is.map PyData.int)=true/\PyData.depthAll (is.map PyData.int)=0
 | []=>⟨.nil,by simp[PyData.canLayAll0],by simp[PyData.depthAll]⟩
 | i::is=>by
  obtain⟨a,b,c⟩:=kU4 (G:=G) is
  refine⟨.cons (.int i) a,?_,?_⟩
  ·rw[List.map_cons,PyData.canLayAll0,b];rfl
  ·rw[List.map_cons,PyData.depthAll,c];simp[PyData.depth]
def cmD:Option Nat->PyData
 | none=> .none
 | some d=> .int (d:Nat)
theorem rdg_cm {G:Gp} (c:Option Nat):RdG G (cmT c) (cmD c)/\(cmD c).canLay0=true/\(cmD c).depth=0:=by
 cases c with
 | none=>exact⟨.non,rfl,by simp[cmD,PyData.depth]⟩
 | some d=>exact⟨.int _,rfl,by simp[cmD,PyData.depth]⟩
def shT (W:Web) (s:WS):List T:=[onT s,jXu W s,.int (s.hd:Nat),.int (s.wk:Nat)]
theorem ne_sh {G:Gp} {p q:Addr} {W:Web} {s:WS} {Q:VK3} (hp:G p=some (.lst (shT W s))) (hq:G q=some (.lst (shT W s))) (k:Q (.bl false) G):rNeD (.ref p) (.ref q) G Q:=by
 obtain⟨a,b,c⟩:=kU4 (G:=G) (jVo s.ly)
 obtain⟨a',b',c'⟩:=rdg_cm (G:=G) s.cm
 have r:RdGs G (shT W s) [.tuple [.int (s.rm:Nat),.tuple ((jVo s.ly).map PyData.int)],.tuple [.int (dg W s.rm:Nat),cmD s.cm,.int (s.ly.count (s.rm:Int):Nat)],.int (s.hd:Nat),.int (s.wk:Nat)]:=
  .cons (.tup (.cons (.int _) (.cons (.tup a) .nil))) (.cons (.tup (.cons (.int _) (.cons a' (.cons (.int _) .nil)))) (.cons (.int _) (.cons (.int _) .nil)))
 have cl:PyData.canLay0 (.list [.tuple [.int (s.rm:Nat),.tuple ((jVo s.ly).map PyData.int)],.tuple [.int (dg W s.rm:Nat),cmD s.cm,.int (s.ly.count (s.rm:Int):Nat)],.int (s.hd:Nat),.int (s.wk:Nat)])=true:=by
  simp[PyData.canLay0,PyData.canLayAll0,b,b']
 have dp:PyData.depth (.list [.tuple [.int (s.rm:Nat),.tuple ((jVo s.ly).map PyData.int)],.tuple [.int (dg W s.rm:Nat),cmD s.cm,.int (s.ly.count (s.rm:Int):Nat)],.int (s.hd:Nat),.int (s.wk:Nat)])<=50:=by
  simp[PyData.depth,PyData.depthAll,c,c']
 refine⟨_,_,.lst hp r,.lst hq r,cl,cl,dp,?_⟩
 rw[kVn (.lst hp r)]
 exact k
noncomputable def jJs:Sp3:=fun xs G Q=>∃(a l q:Addr) (W:Web) (s:WS) (ks:List Nat),xs=[.ref a,.ref q]/\WkAt G a l W s/\AnyWeb W/\s.rm<W.length/\s.ly.length<64/\G q=some (.lst (jJn ks))/\ks.length<=10/\(∀k,k∈ks->Rf s k)/\∀G',Sub G G'->Q (.bl true) G'
def jZt:List Str:=["_law_walker","_law_some","_law_before","_law_which"]
noncomputable def jQj:TS3:=
 (tSeq (tAsg (tLst (jJb (jJt jKq (jJb (tVar 0) tNil)) (jJb (jJ0 "Walker" "here" jJo (tVar 0) tNil) (jJb (jJ0 "Walker" "in_hand" jJ4 (tVar 0) tNil) (jJb (jJ0 "Walker" "steps" jK2 (tVar 0) tNil) tNil))))) (jJi 2))
 (tSeq (tFor (iSeq (tVar 1)) (jJi 3) (tSeq (tIfS (tNot (jJw (jJt jUz (jJb (tVar 0) (jJb (tVar 3) tNil))))) (tRet (tC (.bl false))) jKn)
 (tIfS (jJw (tOp rNeD (tLst (jJb (jJt jKq (jJb (tVar 0) tNil)) (jJb (jJ0 "Walker" "here" jJo (tVar 0) tNil) (jJb (jJ0 "Walker" "in_hand" jJ4 (tVar 0) tNil) (jJb (jJ0 "Walker" "steps" jK2 (tVar 0) tNil) tNil))))) (tVar 2))) (tRet (tC (.bl false))) jKn)))
 (tRet (tC (.bl true)))))
theorem jV4:RdOk jJs jQj jZt:=by
 intro xs G Q h_;apply xe6 h_;clear h_;intro a l q W s ks h_;apply ae8 h_;clear h_;intro h aw hr hly hq hk rf kk
 show jQj _ [some (.ref a),some (.ref q),none,none] G
 have hs:=sz
 wp_walk using 1,jQj,jK0,iSeq,jJ0
 refine⟨a,l,W,s,rfl,h,hly,fun G1 s1=> ?_⟩
 have w1:WkAt G1 a l W s:=⟨s1 _ _ h.1,s1 _ _ h.2⟩
 refine⟨jK4 w1.1,a,l,W,s,rfl,w1,hr,jK4 w1.1,a,l,W,s,rfl,w1,jK4 w1.1,a,l,W,s,rfl,w1,?_⟩
 refine⟨by omega,fun p hp=>⟨_,jJm (by rw[jJh (jJd (s1 _ _ hq) hp)];exact s1 _ _ hq),?_⟩⟩
 have e2:(gup G1 p (.lst [onT s,jXu W s,.int (s.hd:Nat),.int (s.wk:Nat)])) p=some (.lst (shT W s)):=jJe
 have s2:Sub G (gup G1 p (.lst [onT s,jXu W s,.int (s.hd:Nat),.int (s.wk:Nat)])):=s1.trans (.new hp)
 generalize gup G1 p (.lst [onT s,jXu W s,.int (s.hd:Nat),.int (s.wk:Nat)])=G2 at e2 s2
 let J1:Nat->St3->Gp->Prop:=fun _ τ G'=>∃v3:Option T,τ=[some (.ref a),some (.ref q),some (.ref p),v3]/\Sub G2 G'
 refine⟨J1,⟨_,rfl,.refl _⟩,?_,?_,?_⟩
 ·intro i τ G' hi h_;apply xe1 h_;clear h_;intro v3 g
  exact jJm (g _ _ (s2 _ _ hq))
 ·intro i x τ G3 hx h_;apply xe1 h_;clear h_;intro v3 g
  obtain⟨k,hk',rfl⟩:=jYj hx
  have w3:WkAt G3 a l W s:=⟨g _ _ (s2 _ _ h.1),g _ _ (s2 _ _ h.2)⟩
  wp_walk using 1,jJ0
  refine⟨a,l,W,s,k,rfl,w3,aw,hr,rf k (List.mem_of_getElem? hk'),fun G4 s4=>⟨_,rfl,?_⟩⟩
  have w4:WkAt G4 a l W s:=⟨s4 _ _ w3.1,s4 _ _ w3.2⟩
  rw[if_neg (by decide)]
  refine⟨a,l,W,s,rfl,w4,hly,fun G5 s5=> ?_⟩
  have w5:WkAt G5 a l W s:=⟨s5 _ _ w4.1,s5 _ _ w4.2⟩
  refine⟨jK4 w5.1,a,l,W,s,rfl,w5,hr,jK4 w5.1,a,l,W,s,rfl,w5,jK4 w5.1,a,l,W,s,rfl,w5,?_⟩
  refine⟨by omega,fun p' hp'=> ?_⟩
  have e5:=s5 _ _ (s4 _ _ (g _ _ e2))
  refine ne_sh jJe (by rw[jJh (jJd e5 hp')];exact e5) ⟨_,rfl,?_⟩
  rw[if_neg (by decide)]
  exact⟨_,rfl,((g.trans s4).trans s5).trans (.new hp')⟩
 ·intro τ G3 h_;apply xe1 h_;clear h_;intro v3 g
  wp_walk using 1,tSeq
  exact kk _ (s2.trans g)
theorem Kp.over {S:List Addr} {p:Addr} {G G':Gp} {o:GO} (h:Kp S G G') (hp:G p=none):Kp S G (L3.gup G' p o):=fun c u hc e=>by rw[jJh];exact h c u hc e;rintro rfl;rw[hp] at e;cases e
noncomputable def jYx:Sp3:=fun xs G Q=>∃(d c a l:Addr) (W:Web) (s:WS) (N:Nat),xs=[.ref d,.ref a]/\DrAt G d c N/\N+20<2^40/\WkAt G a l W s/\Fine W/\s.rm<W.length/\s.ly=[]/\s.hd<=8/\c≠l/\∀p G' s',G p=none->G' p=some (.lst (jJu s'.ly))->s'.hd=0->s'.rm<W.length->s'.ly.length<=8->DrAt G' d c (N+20)->WkAt G' a l W s'->Kp [d,a,l] G G'->Q (.ref p) G'
def qQv:List Str:=["_law_draw","_law_walker","_law_places"]
noncomputable def jY6:TS3:=
 (tSeq (tAsg (tLst tNil) (jJi 2))
 (tSeq (jV0 (jJw (tOp rGt (jJ0 "Walker" "in_hand" jJ4 (tVar 1) tNil) (tC (.int 0)))) (tSeq (jKb (tBM "list" jKc (tVar 2) (jJb (tOp rIxF (jJt jKq (jJb (tVar 1) tNil)) (tC (.int 0))) tNil)))
 (tSeq (jKb (jJ0 "Walker" "lay" jKt (tVar 1) tNil))
 (tIfS (tAnd (jJw (tOp rGt (tOp rIxF (jJ0 "Walker" "here" jJo (tVar 1) tNil) (tC (.int 0))) (tC (.int 0)))) (jJw (tOp rEqA (jJt jJq (jJb (tVar 0) (jJb (tC (.int 2)) tNil))) (tC (.int 0))))) (jKb (jJ0 "Walker" "go" jJx (tVar 1) (jJb (jJt jJq (jJb (tVar 0) (jJb (tOp rIxF (jJ0 "Walker" "here" jJo (tVar 1) tNil) (tC (.int 0))) tNil))) tNil))) jKn))))
 (tRet (tVar 2))))
theorem kQ2:RdOk jYx jY6 qQv:=by
 intro xs G Q h_;apply xe7 h_;clear h_;intro d c a l W s N h_;apply ae9 h_;clear h_;intro hd hN h fine hr hly hh hcl kk
 show jY6 _ [some (.ref d),some (.ref a),none] G
 have hs:=sz
 have hda:d≠a:=by obtain⟨cs,x,y,e1,_⟩:=hd;rintro rfl;rw[h.1] at e1;cases e1
 have hdl:d≠l:=by obtain⟨cs,x,y,e1,_⟩:=hd;rintro rfl;rw[h.2] at e1;cases e1
 have hca:c≠a:=by obtain⟨cs,x,y,_,e1,_⟩:=hd;rintro rfl;rw[h.1] at e1;cases e1
 wp_walk using 1,jY6,jV0,jJ0
 refine⟨by omega,fun p hp=> ?_⟩
 obtain⟨⟨o1,ho1⟩,o2,ho2⟩:=hd.got
 have hdp:=jJd ho1 hp
 have hcp:=jJd ho2 hp
 have hap:=jJd h.1 hp
 have hlp:=jJd h.2 hp
 let P:Nat->St3->Gp->Prop:=fun m τ G'=>∃(s':WS),τ=[some (.ref d),some (.ref a),some (.ref p)]/\G' p=some (.lst (jJu s'.ly))/\s'.hd=m/\m+s'.ly.length=s.hd/\s'.rm<W.length/\DrAt G' d c (N+2*s'.ly.length)/\WkAt G' a l W s'/\Kp [d,a,l] G G'
 refine⟨P,⟨_,s,rfl,by rw[jJe,hly];rfl,rfl,by rw[hly];rfl,hr,by rw[hly];exact hd.gup hdp hcp,⟨by rw[jJh hap];exact h.1,by rw[jJh hlp];exact h.2⟩,.over (.refl _ _) hp⟩,?_⟩
 intro m τ G1 h_;apply xe1 h_;clear h_;intro s' h_;apply ae7 h_;clear h_;intro g1 e1_ g2 g3 g4 g5 g6
 subst e1_
 wp_walk using 1,jJ0
 refine⟨jK4 g5.1,a,l,W,s',rfl,g5,_,rfl,?_⟩
 by_cases hz:s'.hd=0
 ·rw[if_neg (by omega)]
  exact kk p G1 s' hp g1 hz g3 (by omega) (g4.mono (by omega)) g5 g6
 rw[if_pos (by omega)]
 refine⟨P (s'.hd-1),fun τ' G' hN=>⟨_,by omega,hN⟩,(jKp g1).mpr trivial,a,l,W,s',rfl,g5,by omega,fun G2 s2=>⟨_,rfl,_,s2 _ _ g1,by rw[jJu,List.length_map];omega,?_⟩⟩
 have w2:WkAt G2 a l W s':=⟨s2 _ _ g5.1,s2 _ _ g5.2⟩
 have d2:=g4.sub s2
 have k2:Kp [d,a,l] G G2:=g6.trans (.sub s2)
 rw[show jJu s'.ly++[T.int (s'.rm:Nat)]=jJu (layS s').ly by simp[layS,jJu]]
 have w3:WkAt (gup G2 p (.lst (jJu (layS s').ly))) a l W s':=⟨by rw[jJh hap];exact w2.1,by rw[jJh hlp];exact w2.2⟩
 have d3:DrAt (gup G2 p (.lst (jJu (layS s').ly))) d c (N+2*s'.ly.length):=d2.gup hdp hcp
 have k3:Kp [d,a,l] G (gup G2 p (.lst (jJu (layS s').ly))):=k2.over hp
 have e3:(gup G2 p (.lst (jJu (layS s').ly))) p=some (.lst (jJu (layS s').ly)):=jJe
 generalize gup G2 p (.lst (jJu (layS s').ly))=G3 at w3 d3 k3 e3
 refine⟨jK4 w3.1,a,l,W,s',rfl,w3,g3,by omega,by omega,?_⟩
 have w4:WkAt (gup (gup G3 a (wkG W l (layS s'))) l (.lst (jJu (layS s').ly))) a l W (layS s'):=⟨by rw[jJh h.ne,jJe],jJe⟩
 have d4:DrAt (gup (gup G3 a (wkG W l (layS s'))) l (.lst (jJu (layS s').ly))) d c (N+2*s'.ly.length):=(d3.gup hda hca).gup hdl hcl
 have k4:Kp [d,a,l] G (gup (gup G3 a (wkG W l (layS s'))) l (.lst (jJu (layS s').ly))):=(k3.trans (.gup (by simp))).trans (.gup (by simp))
 have e4:(gup (gup G3 a (wkG W l (layS s'))) l (.lst (jJu (layS s').ly))) p=some (.lst (jJu (layS s').ly)):=by rw[jJh hlp.symm,jJh hap.symm];exact e3
 generalize gup (gup G3 a (wkG W l (layS s'))) l (.lst (jJu (layS s').ly))=G4 at w4 d4 k4 e4
 have ll:(layS s').ly.length=s'.ly.length+1:=by simp[layS]
 have lr:(layS s').rm=s'.rm:=rfl
 have lh:(layS s').hd=s'.hd-1:=rfl
 obtain⟨row,hrow⟩:∃row,W[s'.rm]? =some row:=⟨_,List.getElem?_eq_getElem g3⟩
 have hdg:dg W (layS s').rm=row.length:=by rw[lr,dg,hrow];rfl
 have hrl:=fine.row _ _ hrow
 refine⟨jK4 w4.1,a,l,W,layS s',rfl,w4,g3,_,here_at.1,_,rfl,?_⟩
 rw[hdg]
 by_cases hz':0<row.length
 ·rw[if_pos (by omega)]
  refine⟨d,c,2,_,rfl,d4,by omega,by decide,by decide,fun y G5 y0 y1 d5 kp5=>⟨_,jXd,_,rfl,?_⟩⟩
  have w5:WkAt G5 a l W (layS s'):=⟨kp5 _ _ hda.symm w4.1,kp5 _ _ hdl.symm w4.2⟩
  have k5:Kp [d,a,l] G G5:=k4.trans (.keep kp5 (by simp))
  have e5:=kp5 _ _ hdp.symm e4
  split
  ·refine⟨jK4 w5.1,jK4 w5.1,a,l,W,layS s',rfl,w5,g3,_,here_at.1,d,c,_,_,rfl,d5,by omega,by rw[hdg];omega,by rw[hdg];omega,fun z G6 z0 z1 d6 kp6=> ?_⟩
   obtain⟨z,rfl⟩:=Int.eq_ofNat_of_zero_le z0
   have hz6:z<row.length:=by rw[hdg] at z1;omega
   have w6:WkAt G6 a l W (layS s'):=⟨kp6 _ _ hda.symm w5.1,kp6 _ _ hdl.symm w5.2⟩
   have he:en W (layS s').rm z=some row[z]:=jZn hrow (List.getElem?_eq_getElem hz6)
   refine⟨a,l,W,layS s',z,row[z],rfl,w6,fine,he,goS (layS s') row[z],rfl,?_,rfl,?_,fine.rng _ _ _ _ he,?_,w6.go,?_⟩
   ·rw[jJh hap.symm];exact kp6 _ _ hdp.symm e5
   ·show s'.hd-1+(layS s').ly.length=_;omega
   ·refine ((d6.gup hda hca).mono ?_);show _<=N+2*(layS s').ly.length;omega
   ·exact (k5.trans (.keep kp6 (by simp))).trans (.gup (by simp))
  ·exact⟨layS s',rfl,e5,rfl,by omega,g3,d5.mono (by omega),w5,k5⟩
 ·rw[if_neg (by omega)]
  exact⟨layS s',rfl,e4,rfl,by omega,g3,d4.mono (by omega),w4,k4⟩
def jQq:Sp3:=fun xs G Q=>∃(W:Web),xs=[encW W]/\AnyWeb W/\∀G',Sub G G'->Q (.bl true) G'
def jVm:List Str:=["_law_web_here","_law_due","_law_walker","_law_doors"]
noncomputable def jU3:TS3:=
 (tSeq (tAsg (jJt jQd (jJb (tVar 0) (jJb (tC (.int 0)) tNil))) (jJi 1))
 (tSeq (tAsg (kQr "Walker" jKl (jJb (tVar 0) (jJb (tC (.int 0)) (jJb (tC (.int 1)) tNil)))) (jJi 2))
 (tSeq (tIfS (tOr (tNot (jJw (jJt jJs (jJb (tVar 2) (jJb (tLst (jJb (tC (.int 2)) tNil)) tNil))))) (tOr (tNot (jJw (jJt jQg (jJb (jQw jK1 RNo (jJb (tVar 2) tNil)) (jJb (tVar 1) tNil))))) (jJw (tOp rNeA (jQw jQp RNo (jJb (tVar 2) tNil)) (tCB rLen (jJb (tVar 0) tNil)))))) (tRet (tC (.bl false))) jKn)
 (tSeq (jKb (jJ0 "Walker" "lay" jKt (tVar 2) tNil))
 (tSeq (tIfS (tNot (jJw (jJt jJs (jJb (tVar 2) (jJb (tLst (jJb (tC (.int 0)) (jJb (tC (.int 1)) (jJb (tC (.int 0)) tNil)))) tNil))))) (tRet (tC (.bl false))) jKn)
 (tSeq (tIfS (tAnd (jJw (tOp rLt (tCB rLen (jJb (tVar 0) tNil)) (tC (.int 6)))) (tAnd (jJw (tOp rLt (tCB qUt (jJb (jQ3 [false,false,false,true] (iSeq (tVar 0)) (jJi 3) jUy (tCB rLen (jJb (tVar 3) tNil))) tNil)) (tC (.int 4)))) (tNot (jJw (jJt jQg (jJb (jQw jKf RNo (jJb (tVar 2) (jJb (tC (.int 5)) tNil))) (jJb (tVar 1) tNil))))))) (tRet (tC (.bl false))) jKn)
 (tSeq (jKb (jJ0 "Walker" "take" jKv (tVar 2) tNil))
 (tRet (kJo (jJt jJs (jJb (tVar 2) (jJb (tLst (jJb (tC (.int 2)) tNil)) tNil))) (jJt jQg (jJb (jQw jK1 RNo (jJb (tVar 2) tNil)) (jJb (tVar 1) tNil))))))))))))
noncomputable def kU5:TS3:=(tSeq (jKb (jJ0 "Walker" "take" jKv (tVar 2) tNil))
 (tRet (kJo (jJt jJs (jJb (tVar 2) (jJb (tLst (jJb (tC (.int 2)) tNil)) tNil))) (jJt jQg (jJb (jQw jK1 RNo (jJb (tVar 2) tNil)) (jJb (tVar 1) tNil))))))
noncomputable def kYi:TS3:=tSeq (tIfS (tAnd (jJw (tOp rLt (tCB rLen (jJb (tVar 0) tNil)) (tC (.int 6)))) (tAnd (jJw (tOp rLt (tCB qUt (jJb (jQ3 [false,false,false,true] (iSeq (tVar 0)) (jJi 3) jUy (tCB rLen (jJb (tVar 3) tNil))) tNil)) (tC (.int 4)))) (tNot (jJw (jJt jQg (jJb (jQw jKf RNo (jJb (tVar 2) (jJb (tC (.int 5)) tNil))) (jJb (tVar 1) tNil))))))) (tRet (tC (.bl false))) jKn) kU5
noncomputable def kYj:TS3:=tSeq (jKb (jJ0 "Walker" "lay" jKt (tVar 2) tNil)) (tSeq (tIfS (tNot (jJw (jJt jJs (jJb (tVar 2) (jJb (tLst (jJb (tC (.int 0)) (jJb (tC (.int 1)) (jJb (tC (.int 0)) tNil)))) tNil))))) (tRet (tC (.bl false))) jKn) kYi)
theorem qKh:jU3=tSeq (tAsg (jJt jQd (jJb (tVar 0) (jJb (tC (.int 0)) tNil))) (jJi 1)) (tSeq (tAsg (kQr "Walker" jKl (jJb (tVar 0) (jJb (tC (.int 0)) (jJb (tC (.int 1)) tNil)))) (jJi 2)) (tSeq (tIfS (tOr (tNot (jJw (jJt jJs (jJb (tVar 2) (jJb (tLst (jJb (tC (.int 2)) tNil)) tNil))))) (tOr (tNot (jJw (jJt jQg (jJb (jQw jK1 RNo (jJb (tVar 2) tNil)) (jJb (tVar 1) tNil))))) (jJw (tOp rNeA (jQw jQp RNo (jJb (tVar 2) tNil)) (tCB rLen (jJb (tVar 0) tNil)))))) (tRet (tC (.bl false))) jKn) kYj)):=rfl
abbrev S4t (W:Web) (a:Addr) (v3:Option T):St3:=[some (encW W),some (encW (jYs W 0)),some (.ref a),v3]
theorem Kp.new {S:List Addr} {p:Addr} {G:Gp} {o:GO} (hp:G p=none):Kp S G (L3.gup G p o):= .sub (.new hp)
theorem tr6_ok {Q:VK3} {G:Gp} {a l:Addr} {W:Web} {s:WS} {v3:Option T} (h:WkAt G a l W s) (aw:AnyWeb W) (e0:s.rm=0) (el:s.ly=[0]) (kk:∀G',Kp [a,l] G G'->Q (.bl true) G'):
  kU5 {nx:=fun _ G'=>Q .non G',rt:=Q} (S4t W a v3) G:=by
 have hs:=sz
 have hW1:=aw.pos
 wp_walk using 1,kU5,jJ0,jQw
 refine⟨jK4 h.1,a,l,W,s,rfl,h,by omega,by rw[el,e0];simp,?_⟩
 have hi:[(0:Int)].idxOf? ((0:Nat):Int)=some 0:=by simp[List.idxOf?]
 have ly1:(jQi s).ly=[]:=by simp only[jQi,el,e0,hi];rfl
 have rm1:(jQi s).rm=0:=e0
 have hd1:(jQi s).hd=s.hd+1:=rfl
 have w1:WkAt (gup (gup G l (.lst (jJu (jQi s).ly))) a (wkG W l (jQi s))) a l W (jQi s):=⟨jJe,by rw[jJh h.ne.symm,jJe]⟩
 have k1:Kp [a,l] G (gup (gup G l (.lst (jJu (jQi s).ly))) a (wkG W l (jQi s))):=(Kp.gup (by simp)).trans (.gup (by simp))
 generalize gup (gup G l (.lst (jJu (jQi s).ly))) a (wkG W l (jQi s))=G1 at w1 k1
 refine⟨by omega,fun p hp=> ?_⟩
 have w2:WkAt (gup G1 p (.lst [.int 2])) a l W (jQi s):=⟨by rw[jJh (jJd w1.1 hp)];exact w1.1,by rw[jJh (jJd w1.2 hp)];exact w1.2⟩
 refine⟨a,l,p,W,jQi s,[2],rfl,w2,aw,by omega,by rw[ly1];decide,jJe,by decide,fun k hk=> ?_,fun G3 s3=>⟨_,rfl,?_⟩⟩
 ·cases List.mem_singleton.mp hk;unfold Rf;rw[if_neg (by decide),ly1];rfl
 rw[if_pos rfl]
 have w3:WkAt G3 a l W (jQi s):=⟨s3 _ _ w2.1,s3 _ _ w2.2⟩
 have k3:Kp [a,l] G G3:=(k1.trans (.new hp)).trans (.sub s3)
 refine⟨a,l,W,jQi s,rfl,w3,aw,by omega,fun z=>absurd z (by omega),fun _=>⟨ly1,fun G4 s4 lk4 w4 kp4=> ?_⟩⟩
 rw[rm1]
 exact⟨_,rfl,kQq aw (by omega),fun G5 s5=>kk G5 ((k3.trans kp4).trans (.sub s5))⟩
theorem tr5_ok {Q:VK3} {G:Gp} {a l:Addr} {W:Web} {s:WS} (h:WkAt G a l W s) (aw:AnyWeb W) (e0:s.rm=0) (el:s.ly=[0]) (kk:∀G',Kp [a,l] G G'->Q (.bl true) G'):
  kYi {nx:=fun _ G'=>Q .non G',rt:=Q} (S4t W a none) G:=by
 have hs:=sz
 have hW1:=aw.pos
 have hW2:=aw.len
 have fin:∀v3 G' s',WkAt G' a l W s'->s'.rm=0->s'.ly=[0]->Kp [a,l] G G'->kU5 {nx:=fun _ G'=>Q .non G',rt:=Q} (S4t W a v3) G':=fun v3 G' s' w e1 e2 kp=>tr6_ok w aw e1 e2 fun G'' kp'=>kk G'' (kp.trans kp')
 wp_walk using 1,kYi,jQw,iSeq,encW
 split
 ·refine jUu (es:=W) (enc:=encR) (fun es=>T.int (es.length:Nat)) (by omega) (fun _ _=>trivial) ?_ ?_
  ·intro i es hes G' K K0 s' hkk
   wp_walk using 1,encR,List.length_map
   exact hkk _ (.refl _)
  ·intro D G1 hD hG1 s1
   obtain⟨es0,rest,rfl⟩:∃e r,W=e::r:=by
    cases W with
    | nil=>simp at hW1
    | cons e r=>exact⟨e,r,rfl⟩
   refine⟨D,(es0.length:Nat),rest.map fun es=>((es.length:Nat):Int),rfl,by rw[hG1];simp,_,rfl,?_⟩
   have w1:WkAt G1 a l (es0::rest) s:=⟨s1 _ _ h.1,s1 _ _ h.2⟩
   split
   ·refine⟨a,l,_,s,_,rfl,w1,aw,by omega,fun z=>absurd z (by rw[el,e0];simp),fun _=>⟨by rw[el,e0];rfl,fun G2 s2 lk w2 kp2=> ?_⟩⟩
    rw[e0]
    refine⟨_,rfl,kQq aw (by omega),fun G3 s3=>⟨_,rfl,?_⟩⟩
    rw[if_neg (by decide)]
    exact fin _ G3 s2 ⟨s3 _ _ w2.1,s3 _ _ w2.2⟩ (lk.rm.trans e0) (lk.ly.trans el) (((Kp.sub s1).trans (.keep kp2 (by simp))).trans (.sub s3))
   ·exact fin _ G1 s w1 e0 el (.sub s1)
 ·exact fin _ G s h e0 el (.refl _ _)
theorem tr3_ok {Q:VK3} {G:Gp} {a l:Addr} {W:Web} {s:WS} (h:WkAt G a l W s) (aw:AnyWeb W) (e0:s.rm=0) (el:s.ly=[]) (eh:s.hd=1) (kk:∀G',Kp [a,l] G G'->Q (.bl true) G'):
  kYj {nx:=fun _ G'=>Q .non G',rt:=Q} (S4t W a none) G:=by
 have hs:=sz
 have hW1:=aw.pos
 wp_walk using 1,kYj,jJ0
 refine⟨jK4 h.1,a,l,W,s,rfl,h,by omega,by omega,by rw[el];decide,?_⟩
 have ly1:(layS s).ly=[0]:=by simp[layS,el,e0]
 have rm1:(layS s).rm=0:=e0
 have hd1:(layS s).hd=0:=by show s.hd-1=0;omega
 have w1:WkAt (gup (gup G a (wkG W l (layS s))) l (.lst (jJu (layS s).ly))) a l W (layS s):=⟨by rw[jJh h.ne,jJe],jJe⟩
 have k1:Kp [a,l] G (gup (gup G a (wkG W l (layS s))) l (.lst (jJu (layS s).ly))):=(Kp.gup (by simp)).trans (.gup (by simp))
 generalize gup (gup G a (wkG W l (layS s))) l (.lst (jJu (layS s).ly))=G1 at w1 k1
 refine⟨by omega,fun p hp=> ?_⟩
 have w2:WkAt (gup G1 p (.lst [.int 0,.int 1,.int 0])) a l W (layS s):=⟨by rw[jJh (jJd w1.1 hp)];exact w1.1,by rw[jJh (jJd w1.2 hp)];exact w1.2⟩
 refine⟨a,l,p,W,layS s,[0,1,0],rfl,w2,aw,by omega,by rw[ly1];decide,jJe,by decide,fun k hk=> ?_,fun G3 s3=>⟨_,rfl,?_⟩⟩
 ·have:k<2:=by simp at hk;omega
  unfold Rf;rw[if_pos this];exact hd1
 rw[if_neg (by decide)]
 exact tr5_ok ⟨s3 _ _ w2.1,s3 _ _ w2.2⟩ aw rm1 ly1 fun G' kp=>kk G' (((k1.trans (.new hp)).trans (.sub s3)).trans kp)
theorem jXl:RdOk jQq jU3 jVm:=by
 intro xs G Q h_;apply xe1 h_;clear h_;intro W h_;apply ae2 h_;clear h_;intro aw kk
 rw[show jKj jVm [encW W]=[some (encW W),none,none,none] from rfl,qKh]
 have hs:=sz
 have hW1:=aw.pos
 wp_walk using 1,kQr,jQw
 refine⟨W,0,rfl,aw.fine,by omega,fun G1 s1 a ha=>⟨a,W,0,1,rfl,jJe,fun l G2 hla hl0 w2 fr2=>⟨rfl,by omega,fun p hp=> ?_⟩⟩⟩
 have hl1:G1 l=none:=by rw[jJh hla] at hl0;exact hl0
 have fre:∀x,G1 x=none->G x=none:=fun x hx=>by
  cases e:G x with
  | none=>rfl
  | some o=>rw[s1 _ _ e] at hx;cases hx
 have kk':∀G',Kp [a,l] G G'->Q (.bl true) G':=fun G' kp=>kk G' fun x o hx=>kp x o (by
  simp only[List.mem_cons,List.not_mem_nil,or_false,not_or]
  refine⟨?_,?_⟩
  ·rintro rfl;rw[fre _ ha] at hx;cases hx
  ·rintro rfl;rw[fre _ hl1] at hx;cases hx) hx
 have k2:Kp [a,l] G G2:=fun x o hx e=>by
  simp only[List.mem_cons,List.not_mem_nil,or_false,not_or] at hx
  rw[fr2 x hx.1 hx.2,jJh hx.1];exact s1 _ _ e
 have w3:WkAt (gup G2 p (.lst [.int 2])) a l W ⟨0,none,1,[],0⟩:=⟨by rw[jJh (jJd w2.1 hp)];exact w2.1,by rw[jJh (jJd w2.2 hp)];exact w2.2⟩
 refine⟨a,l,p,W,_,[2],rfl,w3,aw,hW1,(show 0<64 by decide),jJe,by decide,fun k hk=> ?_,fun G3 s3=>⟨_,rfl,?_⟩⟩
 ·cases List.mem_singleton.mp hk;unfold Rf;rw[if_neg (by decide)];rfl
 rw[if_neg (by decide)]
 refine⟨a,l,W,_,rfl,⟨s3 _ _ w3.1,s3 _ _ w3.2⟩,aw,hW1,fun z=>absurd z (by decide),fun _=>⟨rfl,fun G4 s4 lk4 w4 kp4=> ?_⟩⟩
 refine⟨_,rfl,kQq aw hW1,fun G5 s5=>⟨_,rfl,?_⟩⟩
 rw[if_neg (by decide)]
 have rm4:s4.rm=0:=lk4.rm
 have hd4:s4.hd=1:=lk4.hd
 have ly4:s4.ly=[]:=lk4.ly
 refine⟨a,l,W,s4,rfl,⟨s5 _ _ w4.1,s5 _ _ w4.2⟩,aw,by omega,fun z=>absurd z (by omega),fun _=>⟨ly4,fun G6 s6 lk6 w6 kp6=>⟨_,rfl,_,kUh,_,rfl,?_⟩⟩⟩
 rw[List.length_map,decide_eq_true rfl,if_neg (by decide)]
 exact tr3_ok w6 aw (lk6.rm.trans rm4) (lk6.ly.trans ly4) (lk6.hd.trans hd4) fun G' kp=>kk' G' (((((k2.trans (.new hp)).trans (.sub s3)).trans kp4).trans (.sub s5)).trans (kp6.trans kp))
def kX7:Sp3:=fun xs G Q=>∃ns:List Int,xs=[.scr (jJu ns)]/\ns.length<=63/\∀G',Q (.bl true) G'
def N_law:List Str:=["_law_script","_law_draw","_law_turn","_law_web_here","_law_walker","_law_places","_law_some"]
noncomputable def kU6:TS3:=
 (tSeq (tAsg (jJt jXi (jJb (tVar 0) tNil)) (jJi 1))
 (tSeq (tFor (jQh (jJb (tOp jKw (tC (.int 1)) (tCB kYq (jJb (tC (.int 6)) (jJb (tCB rLen (jJb (tVar 0) tNil)) tNil)))) tNil)) (jJi 2) (tSeq (tAsg (jJt jUl (jJb (tVar 1) (jJb (tC (.int 8)) (jJb (tOp rIxF (tLst (jJb (tC (.int 2)) (jJb (tC (.int 3)) (jJb (tC (.int 6)) tNil)))) (jJt jJq (jJb (tVar 1) (jJb (tC (.int 3)) tNil)))) tNil)))) (jJi 3))
 (tSeq (tAsg (kQr "Walker" jKl (jJb (tVar 3) (jJb (jJt jJq (jJb (tVar 1) (jJb (tCB rLen (jJb (tVar 3) tNil)) tNil))) (jJb (tC (.int 0)) tNil)))) (jJi 4))
 (tSeq (jKb (jJt jU0 (jJb (tVar 1) (jJb (tVar 4) tNil))))
 (tSeq (tIfS (tNot (jJw (jJt jJs (jJb (tVar 4) (jJb (tLst (jJb (tC (.int 0)) (jJb (tC (.int 1)) (jJb (tC (.int 2)) (jJb (tC (.int 0)) tNil))))) tNil))))) (tRet (tC (.bl false))) jKn)
 (tSeq (tAsg (kQr "Walker" jKl (jJb (tVar 3) (jJb (jJt jJq (jJb (tVar 1) (jJb (tCB rLen (jJb (tVar 3) tNil)) tNil))) (jJb (tOp jKw (tC (.int 1)) (jJt jJq (jJb (tVar 1) (jJb (tC (.int 4)) tNil)))) tNil)))) (jJi 4))
 (tSeq (tAsg (jJt jYx (jJb (tVar 1) (jJb (tVar 4) tNil))) (jJi 5))
 (tSeq (tAsg (tOp jKw (tLst (jJb (tC (.int 0)) (jJb (tC (.int 1)) tNil))) (tOp jU7 (tLst (jJb (tC (.int 2)) tNil)) (tCB kU9 (jJb (tOp jQy (tOp rIxF (jJt jKq (jJb (tVar 4) tNil)) (tC (.int 0))) (tVar 5)) tNil)))) (jJi 6))
 (tSeq (tIfS (tOr (tNot (jJw (jJt jJs (jJb (tVar 4) (jJb (tVar 6) tNil))))) (jJw (tOp rNeA (tOp rIxF (jJt jKq (jJb (tVar 4) tNil)) (tC (.int 1))) (tCB jJ5 (jJb (tCB kKs (jJb (tVar 5) tNil)) tNil))))) (tRet (tC (.bl false))) jKn)
 (tIfS (tNot (jJw (jJt jQq (jJb (tVar 3) tNil)))) (tRet (tC (.bl false))) jKn))))))))))
 (tRet (tC (.bl true)))))
theorem kX1 {a b c:Nat} {i:Int} (h0:0<=i) (h1:i<3):∃x:Nat,L2.atI [T.int (a:Nat),T.int (b:Nat),T.int (c:Nat)] i=some (.int (x:Nat))/\(x=a\/x=b\/x=c):=by
 (obtain⟨n,rfl⟩:=Int.eq_ofNat_of_zero_le h0)
 have:n=0\/n=1\/n=2:=by omega
 rcases this with rfl | rfl | rfl
 ·exact⟨a,rfl,.inl rfl⟩
 ·exact⟨b,rfl,.inr (.inl rfl)⟩
 ·exact⟨c,rfl,.inr (.inr rfl)⟩
theorem qKg:RdOk kX7 kU6 N_law:=by
 intro xs G Q h_;apply xe1 h_;clear h_;intro ns h_;apply ae2 h_;clear h_;intro hl kk
 show kU6 _ [some (.scr (jJu ns)),none,none,none,none,none,none] G
 have hsz:=sz
 wp_walk using 1,kU6,jK0,jQh,kYq
 refine⟨ns,rfl,hl,fun d c G1 hd0 hc0 dr1 s1=> ?_⟩
 refine⟨_,rfl,by split<;>omega,by split<;>omega,?_⟩
 let J1:Nat->St3->Gp->Prop:=fun i τ G'=>∃(v2 v3 v4 v5 v6:Option T),τ=[some (.scr (jJu ns)),some (.ref d),v2,v3,v4,v5,v6]/\DrAt G' d c (6000*i)
 refine⟨J1,?_,?_,?_,?_⟩
 ·exact⟨_,_,_,_,_,rfl,dr1⟩
 ·intros;trivial
 ·intro i x τ G2 hx h_;apply xe5 h_;clear h_;intro v2 v3 v4 v5 v6 h2
  obtain⟨hi,rfl⟩:=jQr hx
  have hi9:i<9:=by split at hi<;>omega
  wp_walk using 1,kQr,jU7
  refine⟨by omega,fun p hp=> ?_⟩
  obtain⟨⟨o1,ho1⟩,o2,ho2⟩:=h2.got
  have hpd:p≠d:=(jJd ho1 hp).symm
  refine⟨d,c,3,_,rfl,h2.gup (jJd ho1 hp) (jJd ho2 hp),by omega,by decide,by decide,fun r3 G3 c0 c1 dr3 kp3=> ?_⟩
  obtain⟨x1,hx1,hxx1⟩:=kX1 (a:=2) (b:=3) (c:=6) c0 c1
  refine⟨_,(jQk (kp3 _ _ hpd jJe)).trans hx1,d,c,8,x1,_,rfl,dr3,by omega,by decide,by decide,by omega,by omega,fun W G4 aw hWl dr4 kp4=> ?_⟩
  have hW1:=aw.pos
  have hW2:=aw.len
  refine⟨_,rfl,d,c,_,_,rfl,dr4,by omega,by rw[List.length_map];omega,by rw[List.length_map];omega,fun r4 G5 e0 e1 dr5 kp5=> ?_⟩
  obtain⟨r4,rfl⟩:=Int.eq_ofNat_of_zero_le e0
  rw[List.length_map] at e1
  intro a ha
  refine⟨a,W,r4,0,rfl,jJe,fun l G6 hla hl0 w6 fr6=>⟨rfl,?_⟩⟩
  obtain⟨_,hl5⟩:=jQn hl0
  obtain⟨⟨o5,ho5⟩,o6,ho6⟩:=dr5.got
  have hda:=jJd ho5 ha
  have hca:=jJd ho6 ha
  have hdl:=jJd ho5 hl5
  have hcl:=jJd ho6 hl5
  have dr6:DrAt G6 d c _:=dr5.move (by rw[fr6 d hda hdl,jJh hda]) (by rw[fr6 c hca hcl,jJh hca]) (Nat.le_refl _)
  refine⟨d,c,a,l,W,_,_,rfl,dr6,by omega,w6,aw.fine,by show r4<_;omega,(show 0<64 by decide),hcl,fun G7 s7 gn dr7 w7 kp7=> ?_⟩
  have ly7:s7.ly=[]:=gn.ly
  have hd7:s7.hd=0:=gn.hd
  refine⟨by omega,fun q hq=> ?_⟩
  obtain⟨⟨o7,ho7⟩,o8,ho8⟩:=dr7.got
  have w8:WkAt (gup G7 q (.lst [.int 0,.int 1,.int 2,.int 0])) a l W s7:=⟨by rw[jJh (jJd w7.1 hq)];exact w7.1,by rw[jJh (jJd w7.2 hq)];exact w7.2⟩
  have dr8:=dr7.gup (o:= .lst [.int 0,.int 1,.int 2,.int 0]) (jJd ho7 hq) (jJd ho8 hq)
  refine⟨a,l,q,W,s7,[0,1,2,0],rfl,w8,aw,gn.rm,by rw[ly7];decide,jJe,by decide,fun k hk=> ?_,fun G9 s9=>⟨_,rfl,?_⟩⟩
  ·unfold Rf;split
   ·exact hd7
   ·rw[ly7];rfl
  rw[if_neg (by decide)]
  have dr9:=dr8.sub s9
  clear w8 dr8 s9 w7 dr7 kp7 gn fr6 w6 dr6 ho7 ho8
  clear hda hca hdl hcl ho5 ho6 hla hl0 hl5 ha
  refine⟨_,rfl,d,c,_,_,rfl,dr9,by omega,by rw[List.length_map];omega,by rw[List.length_map];omega,fun r5 G10 f0 f1 dr10 kp10=> ?_⟩
  obtain⟨r5,rfl⟩:=Int.eq_ofNat_of_zero_le f0
  rw[List.length_map] at f1
  refine⟨d,c,4,_,rfl,dr10,by omega,by decide,by decide,fun r6 G11 g0 g1 dr11 kp11=> ?_⟩
  obtain⟨r6,rfl⟩:=Int.eq_ofNat_of_zero_le g0
  refine⟨_,rfl,?_⟩
  intro a ha
  rw[show (1:Int)+(r6:Nat)=((1+r6:Nat):Int) by omega]
  refine⟨a,W,r5,1+r6,rfl,jJe,fun l G12 hla hl0 w12 fr12=>⟨rfl,?_⟩⟩
  obtain⟨_,hl11⟩:=jQn hl0
  obtain⟨⟨o5,ho5⟩,o6,ho6⟩:=dr11.got
  have hda:=jJd ho5 ha
  have hca:=jJd ho6 ha
  have hdl:=jJd ho5 hl11
  have hcl:=jJd ho6 hl11
  have dr12:DrAt G12 d c _:=dr11.move (by rw[fr12 d hda hdl,jJh hda]) (by rw[fr12 c hca hcl,jJh hca]) (Nat.le_refl _)
  refine⟨d,c,a,l,W,_,_,rfl,dr12,by omega,w12,aw.fine,by show r5<_;omega,rfl,by show 1+r6<=8;omega,hcl,fun pl G13 s13 hpl e13 h13 rm13 ll13 dr13 w13 kp13=> ?_⟩
  clear w12 dr12 fr12 dr11 kp13
  refine⟨by omega,fun p1 hp1=>⟨by omega,fun p2 hp2=> ?_⟩⟩
  obtain⟨hp21,hp2'⟩:=jQn hp2
  obtain⟨⟨o7,ho7⟩,o8,ho8⟩:=dr13.got
  have s14:Sub G13 (gup (gup G13 p1 (.lst [.int 0,.int 1])) p2 (.lst [.int 2])):=(Sub.new hp1).trans (.new hp2)
  have a14:(gup (gup G13 p1 (.lst [.int 0,.int 1])) p2 (.lst [.int 2])) p1=some (.lst [.int 0,.int 1]):=by rw[jJh hp21.symm,jJe]
  have b14:(gup (gup G13 p1 (.lst [.int 0,.int 1])) p2 (.lst [.int 2])) p2=some (.lst [.int 2]):=jJe
  generalize gup (gup G13 p1 (.lst [.int 0,.int 1])) p2 (.lst [.int 2])=G14 at s14 a14 b14
  refine⟨a,l,W,s13,rfl,⟨s14 _ _ w13.1,s14 _ _ w13.2⟩,by omega,fun G15 s15=>⟨_,rfl,_,qQ7 (s15 _ _ (s14 _ _ e13)),_,rfl,?_⟩⟩
  have a15:=s15 _ _ a14
  have b15:=s15 _ _ b14
  have mul:∀b:Bool,∃zs:List Nat,mulR G15 (.ref p2) (.int (if b=true then 1 else 0))=some (.newL (jJn zs))/\(∀z,z∈zs->z=2/\b=true)/\zs.length<=1:=by
   intro b
   cases b with
   | false=>
    refine⟨[],?_,fun z hz=>by simp at hz,by decide⟩
    simp only[mulR,b15]
    rw[if_pos (by simp)];rfl
   | true=>
    refine⟨[2],?_,fun z hz=>⟨by simpa using hz,rfl⟩,by decide⟩
    simp only[mulR,b15]
    rw[if_pos (by simp;omega)];rfl
  obtain⟨zs,hz1,hz2,hz3⟩:=mul (!decide ((s13.rm:Int)∈s13.ly))
  refine⟨_,hz1,fun p3 hp3=> ?_⟩
  refine⟨_,qQr (by rw[jJh (jJd a15 hp3)];exact a15) jJe (by simp[jJn];omega),fun p4 hp4=> ?_⟩
  have s17:Sub G13 (gup (gup G15 p3 (.lst (jJn zs))) p4 (.lst ([.int 0,.int 1]++jJn zs))):=((s14.trans s15).trans (.new hp3)).trans (.new hp4)
  have e17:(gup (gup G15 p3 (.lst (jJn zs))) p4 (.lst ([.int 0,.int 1]++jJn zs))) p4=some (.lst (jJn (0::1::zs))):=jJe
  generalize gup (gup G15 p3 (.lst (jJn zs))) p4 (.lst ([.int 0,.int 1]++jJn zs))=G17 at s17 e17
  refine⟨a,l,p4,W,s13,_,rfl,⟨s17 _ _ w13.1,s17 _ _ w13.2⟩,aw,rm13,by omega,e17,by simp;omega,fun k hk=> ?_,fun G18 s18=>⟨_,rfl,?_⟩⟩
  ·unfold Rf
   rcases (List.mem_cons.mp hk) with rfl | hk
   ·exact h13
   ·rcases (List.mem_cons.mp hk) with rfl | hk
    ·exact h13
    ·obtain⟨rfl,hb⟩:=hz2 k hk
     rw[if_neg (by decide)]
     exact List.count_eq_zero.mpr (by simpa using hb)
  rw[if_neg (by decide)]
  have s18':=s17.trans s18
  refine⟨a,l,W,s13,rfl,⟨s18' _ _ w13.1,s18' _ _ w13.2⟩,by omega,fun G19 s19=>⟨_,rfl,?_⟩⟩
  have s19':=s18'.trans s19
  have okt:OkD 40 (.tup (jJu (jVo s13.ly))):=(qU1 (d:=0) fun x hx=>by obtain⟨z,_,rfl⟩:=List.mem_map.mp hx;exact okD_int).mono (by decide)
  wp_walk using 1,kKs
  refine⟨s13.ly,by simp only[jUw,s19' _ _ e13,asL],by omega,fun p5 hp5=> ?_⟩
  have s20:Sub G13 (gup G19 p5 (.lst ((jVo s13.ly).map T.int))):=s19'.trans (.new hp5)
  refine⟨_,qQj okt (fun p z=>by cases z),_,rfl,?_⟩
  rw[if_neg (by decide)]
  refine⟨W,rfl,aw,fun G21 s21=>⟨_,rfl,?_⟩⟩
  rw[if_neg (by decide)]
  exact⟨_,_,_,_,_,rfl,(dr13.sub (s20.trans s21)).mono (by omega)⟩
 ·intro τ G2 h_;apply xe5 h_;clear h_;intro v2 v3 v4 v5 v6 h2
  wp_walk using 1,tSeq
  exact kk _
end W
namespace W
open PySem PySem.Spec PyProof.Rows L2 L3
theorem ln1 {α:Type} {us:List α} {C:List α->Prop} (h:us.length=1) (k:∀a0,C [a0]):C us:=by
 obtain⟨a0,us,rfl⟩:=List.exists_cons_of_length_eq_add_one h
 replace h:=Nat.succ.inj h
 cases List.length_eq_zero_iff.mp h
 exact k a0
theorem ln2 {α:Type} {us:List α} {C:List α->Prop} (h:us.length=2) (k:∀a0 a1,C [a0,a1]):C us:=by
 obtain⟨a0,us,rfl⟩:=List.exists_cons_of_length_eq_add_one h
 replace h:=Nat.succ.inj h
 obtain⟨a1,us,rfl⟩:=List.exists_cons_of_length_eq_add_one h
 replace h:=Nat.succ.inj h
 cases List.length_eq_zero_iff.mp h
 exact k a0 a1
theorem ln3 {α:Type} {us:List α} {C:List α->Prop} (h:us.length=3) (k:∀a0 a1 a2,C [a0,a1,a2]):C us:=by
 obtain⟨a0,us,rfl⟩:=List.exists_cons_of_length_eq_add_one h
 replace h:=Nat.succ.inj h
 obtain⟨a1,us,rfl⟩:=List.exists_cons_of_length_eq_add_one h
 replace h:=Nat.succ.inj h
 obtain⟨a2,us,rfl⟩:=List.exists_cons_of_length_eq_add_one h
 replace h:=Nat.succ.inj h
 cases List.length_eq_zero_iff.mp h
 exact k a0 a1 a2
theorem ln4 {α:Type} {us:List α} {C:List α->Prop} (h:us.length=4) (k:∀a0 a1 a2 a3,C [a0,a1,a2,a3]):C us:=by
 obtain⟨a0,us,rfl⟩:=List.exists_cons_of_length_eq_add_one h
 replace h:=Nat.succ.inj h
 obtain⟨a1,us,rfl⟩:=List.exists_cons_of_length_eq_add_one h
 replace h:=Nat.succ.inj h
 obtain⟨a2,us,rfl⟩:=List.exists_cons_of_length_eq_add_one h
 replace h:=Nat.succ.inj h
 obtain⟨a3,us,rfl⟩:=List.exists_cons_of_length_eq_add_one h
 replace h:=Nat.succ.inj h
 cases List.length_eq_zero_iff.mp h
 exact k a0 a1 a2 a3
def top (i:Nat):Stmt:=PySem.Challenge.pw_stonewalker_k37_no_stone_there.main.body.getD i (.Pass ⟨0,0,0,0⟩)
def FnAt (K:PySem.W.Frag) (mg:Str->Option Value) (x:Str) (i:Nat):Prop:=∃f fd,mg x=some (.ref f)/\Fun K x x (top i) f fd
def MeF (K:PySem.W.Frag) (C:Addr) (m q:Str) (st:Stmt):Prop:=∃f fd,Meth K C m f/\Fun K m q st f fd
def MkF (K:PySem.W.Frag) (C:Addr) (q:Str) (st:Stmt):Prop:=∃f fd,Mk K C f/\Fun K "__init__" q st f fd
structure ClT_Walker (K:PySem.W.Frag) (mg:Str->Option Value) (C:Addr):Prop where
 cn:CN K "Walker" C
 cl:Cls K C
 mg:mg "Walker"=some (.ref C)
 a_came:NoAttr K C "came"
 a_held:NoAttr K C "held"
 a_lying:NoAttr K C "lying"
 a_room:NoAttr K C "room"
 a_walked:NoAttr K C "walked"
 a_web:NoAttr K C "web"
 i_:MkF K C "Walker.__init__" (jVx (top 21) 0)
 m_here:MeF K C "here" "Walker.here" (jVx (top 21) 1)
 m_go:MeF K C "go" "Walker.go" (jVx (top 21) 2)
 m_lay:MeF K C "lay" "Walker.lay" (jVx (top 21) 3)
 m_take:MeF K C "take" "Walker.take" (jVx (top 21) 4)
 m_in_hand:MeF K C "in_hand" "Walker.in_hand" (jVx (top 21) 5)
 m_steps:MeF K C "steps" "Walker.steps" (jVx (top 21) 6)
structure Txt (K:PySem.W.Frag) (mg:Str->Option Value):Prop where
 n_all:mg "all"=none
 n_bool:mg "bool"=none
 n_dict:mg "dict"=none
 n_enumerate:mg "enumerate"=none
 n_int:mg "int"=none
 n_isinstance:mg "isinstance"=none
 n_len:mg "len"=none
 n_list:mg "list"=none
 n_max:mg "max"=none
 n_min:mg "min"=none
 n_range:mg "range"=none
 n_reversed:mg "reversed"=none
 n_sorted:mg "sorted"=none
 n_tuple:mg "tuple"=none
 n_zip:mg "zip"=none
 x_NoStone:ExC K mg "NoStone"
 t_WebError:∀cn,cn∈(["NoStone"]:List Str)->ExSub K mg cn "WebError" true
 i_BadRow_Clash_NoDoor_NoMark_NotWhole_NoWeb_TooMany:∀cn b,(cn,b)∈([("NoStone",false)]:List (Str×Bool))->IsX K mg ["BadRow","Clash","NoDoor","NoMark","NotWhole","NoWeb","TooMany"] cn b
 v_TooMany:∃v,ClsV mg "TooMany" v/\Cl1 v
 v_NoWeb:∃v,ClsV mg "NoWeb" v/\Cl1 v
 v_NotWhole:∃v,ClsV mg "NotWhole" v/\Cl1 v
 v_NoMark:∃v,ClsV mg "NoMark" v/\Cl1 v
 v_NoDoor:∃v,ClsV mg "NoDoor" v/\Cl1 v
 v_Clash:∃v,ClsV mg "Clash" v/\Cl1 v
 v_BadRow:∃v,ClsV mg "BadRow" v/\Cl1 v
 i_NoStone:∀cn b,(cn,b)∈([("NoStone",true)]:List (Str×Bool))->IsX K mg ["NoStone"] cn b
 v_NoStone:∃v,ClsV mg "NoStone" v/\Cl1 v
 i_ValueError:∀cn b,(cn,b)∈([("NoStone",true)]:List (Str×Bool))->IsX K mg ["ValueError"] cn b
 v_ValueError:∃v,ClsV mg "ValueError" v/\Cl1 v
 k_Walker:∃C,ClT_Walker K mg C
 f_led:FnAt K mg "led" 11
 f_led_back:FnAt K mg "led_back" 12
 f_is_end_of:FnAt K mg "is_end_of" 14
 f_number_here:FnAt K mg "number_here" 15
 f_by_stone:FnAt K mg "by_stone" 16
 f_mapped:FnAt K mg "mapped" 17
 f_counted:FnAt K mg "counted" 18
 f_mapped_round:FnAt K mg "mapped_round" 19
 f_onlooker:FnAt K mg "onlooker" 22
 f_l_drawn:FnAt K mg "_law_drawn" 24
 f_l_pick:FnAt K mg "_law_pick" 25
 f_l_some_ties:FnAt K mg "_law_some_ties" 26
 f_l_web:FnAt K mg "_law_web" 27
 f_l_ring:FnAt K mg "_law_ring" 28
 f_l_some_web:FnAt K mg "_law_some_web" 29
 f_l_told_from:FnAt K mg "_law_told_from" 30
 f_l_gone_on:FnAt K mg "_law_gone_on" 32
 f_l_same:FnAt K mg "_law_same" 33
 f_l_refused:FnAt K mg "_law_refused" 34
 f_l_all_refused:FnAt K mg "_law_all_refused" 35
 f_l_laid:FnAt K mg "_law_laid" 36
 f_l_then_right:FnAt K mg "_law_then_right" 37
 f_law:FnAt K mg "law" 38
variable {P:Program} {w:World} {K:PySem.W.Frag} {mg:Str->Option Value} {base:Heap}
theorem cal3 {x:Str} {i k:Nat} {N ps:List Str} {sp:Sp3} {t:TS3} (F:FnAt K mg x i) (h:∀xs G Q,sp xs G Q->t {nx:=fun _ G'=>Q .non G',rt:=Q} (jKj N xs) G)
  (d:∀(f:Addr) (cdv:Value) (A:Around) (outer:List Env) (s:Shared) (H:Hp) (E:XK),Room k (A.deeper (envOfC x (jJl (top i)) s.heap.objs.size f cdv))->(A.deeper (envOfC x (jJl (top i)) s.heap.objs.size f cdv)).units+20<cLine->N.Nodup->PSs3 (cxOf CX0 P w K mg base N x (jJl (top i)) f cdv A outer s H E).nox (jKi (top i)) t)
  (S:FnScope N ps (jJl (top i)):=by exact⟨rfl,rfl,rfl,by decide +kernel,rfl,by decide +kernel,by decide +kernel⟩)
  (b:∀(kV doc pm:Value) (an:Option Addr) (cdv ct:Value) (us:List Value),us.length=ps.length->bindArgs (PySem.W.fnOf x x (jQl (top i)) (jKi (top i)) (jJl (top i)) .none kV doc pm an cdv ct) ⟨us,[]⟩=pure (ps.zip us):=by (intro _ _ _ _ _ _ us hl;first | (apply ln1 hl;intros;rfl) | (apply ln2 hl;intros;rfl) | (apply ln3 hl;intros;rfl) | (apply ln4 hl;intros;rfl)))
  (m:Mono sp:=by (intro xs G Q Q' hq;(repeat' (first | (refine Exists.imp fun _=> ?_) | (refine And.imp_right ?_)));intro k;intros;apply hq;apply k<;>assumption))
  (n:∀xs G Q,sp xs G Q->xs.length=ps.length:=by (intro xs G Q h;repeat (first | exact (congrArg List.length h.1).trans rfl | obtain⟨_,h⟩:=h))):Cal P w K mg base (k+1) x ps sp:=by
 obtain⟨f,fd,a,F⟩:=F
 exact⟨⟨f,fd,fn3 F S fun cdv A outer s H E hr=>⟨t,d f cdv A outer s H E hr (kZk hr) S.nd,h⟩,a,F.kp,F.binds b⟩,m,n⟩
theorem jUs (T:Txt K mg):ObF K "Walker" "came":=let ⟨C,h⟩:=T.k_Walker;⟨C,h.cn,h.cl,h.a_came⟩
theorem jKh (T:Txt K mg):ObF K "Walker" "held":=let ⟨C,h⟩:=T.k_Walker;⟨C,h.cn,h.cl,h.a_held⟩
theorem jKm (T:Txt K mg):ObF K "Walker" "lying":=let ⟨C,h⟩:=T.k_Walker;⟨C,h.cn,h.cl,h.a_lying⟩
theorem jJ2 (T:Txt K mg):ObF K "Walker" "room":=let ⟨C,h⟩:=T.k_Walker;⟨C,h.cn,h.cl,h.a_room⟩
theorem jK5 (T:Txt K mg):ObF K "Walker" "walked":=let ⟨C,h⟩:=T.k_Walker;⟨C,h.cn,h.cl,h.a_walked⟩
theorem jQz (T:Txt K mg):ObF K "Walker" "web":=let ⟨C,h⟩:=T.k_Walker;⟨C,h.cn,h.cl,h.a_web⟩
theorem kXn {cn m q:Str} {st:Stmt} {k:Nat} {N ps:List Str} {sp:Sp3} {t:TS3} (F:∃C,CN K cn C/\Cls K C/\MeF K C m q st) (h:∀xs G Q,sp xs G Q->t {nx:=fun _ G'=>Q .non G',rt:=Q} (jKj N xs) G)
  (d:∀(f:Addr) (cdv:Value) (A:Around) (outer:List Env) (s:Shared) (H:Hp) (E:XK),Room k (A.deeper (envOfC q (jJl st) s.heap.objs.size f cdv))->(A.deeper (envOfC q (jJl st) s.heap.objs.size f cdv)).units+20<cLine->N.Nodup->PSs3 (cxOf CX0 P w K mg base N q (jJl st) f cdv A outer s H E).nox (jKi st) t)
  (S:FnScope N ps (jJl st):=by exact⟨rfl,rfl,rfl,by decide +kernel,rfl,by decide +kernel,by decide +kernel⟩)
  (b:∀(kV doc pm:Value) (an:Option Addr) (cdv ct:Value) (us:List Value),us.length=ps.length->bindArgs (PySem.W.fnOf m q (jQl st) (jKi st) (jJl st) .none kV doc pm an cdv ct) ⟨us,[]⟩=pure (ps.zip us):=by (intro _ _ _ _ _ _ us hl;first | (apply ln1 hl;intros;rfl) | (apply ln2 hl;intros;rfl) | (apply ln3 hl;intros;rfl) | (apply ln4 hl;intros;rfl)))
  (mo:Mono sp:=by (intro xs G Q Q' hq;(repeat' (first | (refine Exists.imp fun _=> ?_) | (refine And.imp_right ?_)));intro k;intros;apply hq;apply k<;>assumption))
  (n:∀xs G Q,sp xs G Q->xs.length=ps.length:=by (intro xs G Q h;repeat (first | exact (congrArg List.length h.1).trans rfl | obtain⟨_,h⟩:=h))):CalM P w K mg base (k+1) cn m ps sp:=by
 obtain⟨C,hC,hc,f,fd,hm,F⟩:=F
 exact⟨⟨C,f,fd,hC,hc,hm,fn3 F S fun cdv A outer s H E hr=>⟨t,d f cdv A outer s H E hr (kZk hr) S.nd,h⟩,F.binds b⟩,mo,n⟩
theorem calC3 {cn q:Str} {st:Stmt} {k:Nat} {N ps:List Str} {sp:Sp3} {t:TS3} (F:∃C,CN K cn C/\mg cn=some (.ref C)/\MkF K C q st) (h:∀xs G Q,sp xs G Q->t {nx:=fun _ G'=>Q .non G',rt:=Q} (jKj N xs) G)
  (d:∀(f:Addr) (cdv:Value) (A:Around) (outer:List Env) (s:Shared) (H:Hp) (E:XK),Room k (A.deeper (envOfC q (jJl st) s.heap.objs.size f cdv))->(A.deeper (envOfC q (jJl st) s.heap.objs.size f cdv)).units+20<cLine->N.Nodup->PSs3 (cxOf CX0 P w K mg base N q (jJl st) f cdv A outer s H E).nox (jKi st) t)
  (S:FnScope N ps (jJl st):=by exact⟨rfl,rfl,rfl,by decide +kernel,rfl,by decide +kernel,by decide +kernel⟩)
  (b:∀(kV doc pm:Value) (an:Option Addr) (cdv ct:Value) (us:List Value),us.length=ps.length->bindArgs (PySem.W.fnOf "__init__" q (jQl st) (jKi st) (jJl st) .none kV doc pm an cdv ct) ⟨us,[]⟩=pure (ps.zip us):=by (intro _ _ _ _ _ _ us hl;first | (apply ln1 hl;intros;rfl) | (apply ln2 hl;intros;rfl) | (apply ln3 hl;intros;rfl) | (apply ln4 hl;intros;rfl)))
  (mo:Mono sp:=by (intro xs G Q Q' hq;(repeat' (first | (refine Exists.imp fun _=> ?_) | (refine And.imp_right ?_)));intro k;intros;apply hq;apply k<;>assumption))
  (n:∀xs G Q,sp xs G Q->xs.length=ps.length:=by (intro xs G Q h;repeat (first | exact (congrArg List.length h.1).trans rfl | obtain⟨_,h⟩:=h))):CalC P w K mg base (k+1) cn ps sp:=by
 obtain⟨C,hC,hc,f,fd,hm,F⟩:=F
 exact⟨⟨C,f,fd,hC,hc,hm,fn3 F S fun cdv A outer s H E hr=>⟨t,d f cdv A outer s H E hr (kZk hr) S.nd,h⟩,F.binds b⟩,mo,n⟩
theorem qV4 {x:Str} {i k:Nat} {N ps:List Str} {sp:SpX} {t:XK3->TS3} (F:FnAt K mg x i) (h:∀xs G Q R,sp xs G Q R->t R {nx:=fun _ G'=>Q .non G',rt:=Q} (jKj N xs) G)
  (d:∀(f:Addr) (cdv:Value) (A:Around) (outer:List Env) (s:Shared) (H:Hp) (E:XK) (R:XK3),Room k (A.deeper (envOfC x (jJl (top i)) s.heap.objs.size f cdv))->(A.deeper (envOfC x (jJl (top i)) s.heap.objs.size f cdv)).units+20<cLine->N.Nodup->XR (cxOf (CXX P w) P w K mg base N x (jJl (top i)) f cdv A outer s H E) R->PSs3 (cxOf (CXX P w) P w K mg base N x (jJl (top i)) f cdv A outer s H E) (jKi (top i)) (t R))
  (m:kXr sp) (S:FnScope N ps (jJl (top i)):=by exact⟨rfl,rfl,rfl,by decide +kernel,rfl,by decide +kernel,by decide +kernel⟩)
  (b:∀(kV doc pm:Value) (an:Option Addr) (cdv ct:Value) (us:List Value),us.length=ps.length->bindArgs (PySem.W.fnOf x x (jQl (top i)) (jKi (top i)) (jJl (top i)) .none kV doc pm an cdv ct) ⟨us,[]⟩=pure (ps.zip us):=by (intro _ _ _ _ _ _ us hl;first | (apply ln1 hl;intros;rfl) | (apply ln2 hl;intros;rfl) | (apply ln3 hl;intros;rfl) | (apply ln4 hl;intros;rfl)))
  (n:∀xs G Q R,sp xs G Q R->xs.length=ps.length:=by (intro xs G Q R h;repeat (first | exact (congrArg List.length h.1).trans rfl | obtain⟨_,h⟩:=h))):CalX P w K mg base (k+1) x ps sp:=by
 obtain⟨f,fd,a,F⟩:=F
 exact⟨⟨f,fd,fnX F S fun cdv A outer s H E R hr hx=>⟨t R,d f cdv A outer s H E R hr (kZk hr) S.nd hx,fun xs G Q=>h xs G Q R⟩,a,F.kp,F.binds b⟩,m,n⟩
theorem cal0 {x:Str} {i k:Nat} {ps:List Str} (F:FnAt K mg x i) (b:∀(kV doc pm:Value) (an:Option Addr) (cdv ct:Value) (us:List Value),us.length=ps.length->bindArgs (PySem.W.fnOf x x (jQl (top i)) (jKi (top i)) (jJl (top i)) .none kV doc pm an cdv ct) ⟨us,[]⟩=pure (ps.zip us):=by (intro _ _ _ _ _ _ us hl;first | (apply ln1 hl;intros;rfl) | (apply ln2 hl;intros;rfl) | (apply ln3 hl;intros;rfl) | (apply ln4 hl;intros;rfl))):Cal P w K mg base k x ps (fun _ _ _=>False):=by
 obtain⟨f,fd,a,F⟩:=F
 refine⟨⟨f,fd,⟨fun vs H Q E h=>h.1,?_⟩,a,F.kp,F.binds b⟩,fun _ _ _ _ _ h=>h,fun _ _ _ h=>h.elim⟩
 intros
 rename_i h
 exact absurd h (by rintro⟨_,_,_,_,_,h⟩;exact h)
theorem jUa (T:Txt K mg):CalC P w K mg base 1 "Walker" ["self","web","room","stones"] jKl:=
 calC3 (let ⟨C,h⟩:=T.k_Walker;⟨C,h.cn,h.mg,h.i_⟩) jX6 fun _ _ _ _ _ _ _ hr hu nd=>
  (jJf (jYz (jQz T) (jJc 0) (jJc 1))
   (jJf (jYz (jJ2 T) (jJc 0) (jJc 2))
   (jJf (jYz (jUs T) (jJc 0) e_non)
   (jJf (jYz (jKh T) (jJc 0) (jJc 3))
   (jJf (jYz (jKm T) (jJc 0) (jQo jJg))
   (jJk (jYz (jK5 T) (jJc 0) jJj)))))))
theorem jJv (T:Txt K mg):CalM P w K mg base 1 "Walker" "here" ["self"] jJo:=
 kXn (let ⟨C,h⟩:=T.k_Walker;⟨C,h.cn,h.cl,h.m_here⟩) jX7 fun _ _ _ _ _ _ _ hr hu nd=>
  (jJk (jKd (jUb (jJa (jJp jKy (by rfl) T.n_len PySem.boot_len (jJa (e_ix (ix_F hu) (jQu (jQz T) (jJc 0)) (jQu (jJ2 T) (jJc 0)) (fun _ _=>rfl)) jJg)) (jJa (jQu (jUs T) (jJc 0)) (jJa (e_bm PySem.F.plainAttrs_list PySem.F.slot_list_count PySem.F.type_list_count qU5 (jQu (jKm T) (jJc 0)) (jJa (jQu (jJ2 T) (jJc 0)) jJg)) jJg))))))
theorem jKr (T:Txt K mg):CalM P w K mg base 2 "Walker" "go" ["self","door"] jJx:=
 kXn (let ⟨C,h⟩:=T.k_Walker;⟨C,h.cn,h.cl,h.m_go⟩) jZ0 fun _ _ _ _ _ _ _ hr hu nd=>
  (jJf (s_if (jZv (qUj (o_leF hu) o_lt jJj (jJc 1) (jJp jKy (by rfl) T.n_len PySem.boot_len (jJa (e_ix (ix_F hu) (jQu (jQz T) (jJc 0)) (jQu (jJ2 T) (jJc 0)) (fun _ _=>rfl)) jJg)))) (jJk kQw) jKe)
   (jJf (jJ9 (i:=2) nd (e_ix (ix_F hu) (e_ix (ix_F hu) (jQu (jQz T) (jJc 0)) (jQu (jJ2 T) (jJc 0)) (fun _ _=>rfl)) (jJc 1) (fun _ _=>rfl)))
   (jJf (jYz (jJ2 T) (jJc 0) (e_ix (ix_F hu) (jJc 2) jJj (fun _ _=>rfl)))
   (jJf (jYz (jUs T) (jJc 0) (e_ix (ix_F hu) (jJc 2) jJj (fun _ _=>rfl)))
   (jJf (jYz (jK5 T) (jJc 0) (e_op o_addF (jQu (jK5 T) (jJc 0)) jJj))
   (jJk (jKd (jJ7 (jJv T) (hr.mono (by decide)) (jJc 0)))))))))
theorem jUr (T:Txt K mg):CalM P w K mg base 2 "Walker" "lay" ["self"] jKt:=
 kXn (let ⟨C,h⟩:=T.k_Walker;⟨C,h.cn,h.cl,h.m_lay⟩) jY3 fun _ _ _ _ _ _ _ hr hu nd=>
  (jJf (s_if (jKz (jZe hr.units) (jQu (jKh T) (jJc 0)) jJj (jJr _)) (jJk kQw) jKe)
   (jJf (jYz (jKh T) (jJc 0) (e_op kV9 (jQu (jKh T) (jJc 0)) jJj))
   (jJf (jKg (e_bm PySem.F.plainAttrs_list PySem.F.slot_list_append PySem.F.type_list_append jK6 (jQu (jKm T) (jJc 0)) (jJa (jQu (jJ2 T) (jJc 0)) jJg)))
   (jJk (jKd (jJ7 (jJv T) (hr.mono (by decide)) (jJc 0)))))))
theorem jVl (T:Txt K mg):CalM P w K mg base 2 "Walker" "take" ["self"] jKv:=
 kXn (let ⟨C,h⟩:=T.k_Walker;⟨C,h.cn,h.cl,h.m_take⟩) jX5 fun _ _ _ _ _ _ _ hr hu nd=>
  (jJf (s_if (jKz (jZd hu) (jQu (jJ2 T) (jJc 0)) (jQu (jKm T) (jJc 0)) (jJr _)) (jJk kQw) jKe)
   (jJf (jKg (e_bm PySem.F.plainAttrs_list PySem.F.slot_list_remove PySem.F.type_list_remove qK2 (jQu (jKm T) (jJc 0)) (jJa (jQu (jJ2 T) (jJc 0)) jJg)))
   (jJf (jYz (jKh T) (jJc 0) (e_op o_addF (jQu (jKh T) (jJc 0)) jJj))
   (jJk (jKd (jJ7 (jJv T) (hr.mono (by decide)) (jJc 0)))))))
theorem jKu (T:Txt K mg):CalM P w K mg base 1 "Walker" "in_hand" ["self"] jJ4:=
 kXn (let ⟨C,h⟩:=T.k_Walker;⟨C,h.cn,h.cl,h.m_in_hand⟩) jVr fun _ _ _ _ _ _ _ hr hu nd=>
  (jJk (jKd (jQu (jKh T) (jJc 0))))
theorem jU9 (T:Txt K mg):CalM P w K mg base 1 "Walker" "steps" ["self"] jK2:=
 kXn (let ⟨C,h⟩:=T.k_Walker;⟨C,h.cn,h.cl,h.m_steps⟩) jXm fun _ _ _ _ _ _ _ hr hu nd=>
  (jJk (jKd (jQu (jK5 T) (jJc 0))))
theorem ok_led (T:Txt K mg):Cal P w K mg base 3 "led" ["walker","way"] kUy:=
 cal3 T.f_led qKf fun _ _ _ _ _ _ _ hr hu nd=>
  (jJk (jKd (jXe (mask:=[false,false,true]) rfl ⟨rfl,rfl,rfl,rfl,rfl,rfl,rfl⟩ (kUf (jJc 1)) jQb (fun C fp s H=>(jKa (i:=2) nd)) (fun C fp s H=>jXb) (fun C fp s H=>(e_ix (ix_F hu) (jZo (jKr T) (hr.mono (by decide)) (jJc 0) (jJa (jJc 2) jJg)) jJj (fun _ _=>rfl))))))
theorem jY9 (T:Txt K mg):Cal P w K mg base 3 "led_back" ["walker","doors"] jK8:=
 cal3 T.f_led_back kJy fun _ _ _ _ _ _ _ hr hu nd=>
  (jJk (jV2 PassesOwn.never rfl (kXh rfl T.n_reversed rfl (jJa (jJc 1) jJg)) (jKa (i:=2) nd) (jJk (jKg (jZo (jKr T) (hr.mono (by decide)) (jJc 0) (jJa (jJc 2) jJg))))))
theorem kKw (T:Txt K mg):Cal P w K mg base 4 "is_end_of" ["walker","way","doors"] jU1:=
 cal3 T.f_is_end_of jZz fun _ _ _ _ _ _ _ hr hu nd=>
  (jJf (jJ9 (i:=3) nd (jJ7 (jJv T) (hr.mono (by decide)) (jJc 0)))
   (jJf (jJ9 (i:=4) nd (jQo jJg))
   (jJf (jV2 PassesOwn.never rfl (i_revT rfl T.n_reversed rfl (jJa (jJc 2) jJg)) (jKa (i:=5) nd) (jJf (s_if (jKz o_ge (jJc 5) (e_ix (ix_F hu) (jJc 3) jJj (fun _ _=>rfl)) (jJr _)) (jJk qUp) jKe)
   (jJf (jJ9 (i:=3) nd (jZo (jKr T) (hr.mono (by decide)) (jJc 0) (jJa (jJc 5) jJg)))
   (jJk (jKg (e_bm PySem.F.plainAttrs_list PySem.F.slot_list_append PySem.F.type_list_append jK6 (jJc 4) (jJa (e_ix (ix_F hu) (jJc 3) jJj (fun _ _=>rfl)) jJg)))))))
   (jJf (jKg (jJ3 (jY9 T) (hr.mono (by decide)) (jJa (jJc 0) (jJa (jJc 4) jJg))))
   (jJk (jKd (kZ7 (kZ6 (jZe hr.units) (jJc 4) (qVu rfl rfl T.n_list rfl T.n_reversed rfl (jJa (jJc 1) jJg)) (jJr _)) (qQm (kZ6 o_gt (e_ix (ix_F hu) (jJc 3) jJj (fun _ _=>rfl)) jJj (jJr _))))))))))
theorem jZ1 (T:Txt K mg):Cal P w K mg base 5 "number_here" ["walker","tracks"] jQc:=
 cal3 T.f_number_here jX2 fun _ _ _ _ _ _ _ hr hu nd=>
  (jJf (jV2 PassesOwn.never rfl (kZj rfl T.n_enumerate rfl (jJa (jJc 1) jJg)) (qQf rfl (jVb (jKa (i:=2) nd) (jVb (jKa (i:=3) nd) kVj))) (jJk (s_if (jX1 (jJ3 (kKw T) (hr.mono (by decide)) (jJa (jJc 0) (jJa (e_ix (ix_F hu) (jJc 3) jJj (fun _ _=>rfl)) (jJa (e_ix (ix_F hu) (jJc 3) jJj (fun _ _=>rfl)) jJg))))) (jJk (jKd (jJc 2))) jKe)))
   (jJk (jKd (jJp jKy (by rfl) T.n_len PySem.boot_len (jJa (jJc 1) jJg)))))
theorem jZc (T:Txt K mg):Cal P w K mg base 6 "by_stone" ["walker"] jUm:=
 cal3 T.f_by_stone kJz fun _ _ _ _ _ _ _ hr hu nd=>
  (jJf (jJ9 (i:=1) nd (jQo (jJa (jUb (jJa (jUb jJg) (jJa (jUb jJg) jJg))) jJg)))
   (jJf (jJ9 (i:=2) nd (jQo jJg))
   (jJf (kQv PassesOwn.never (jKz o_lt (jJp jKy (by rfl) T.n_len PySem.boot_len (jJa (jJc 2) jJg)) (jJp jKy (by rfl) T.n_len PySem.boot_len (jJa (jJc 1) jJg)) (jJr _)) (jJf (jJ9 (i:=3) nd (e_ix (ix_F hu) (jJc 1) (jJp jKy (by rfl) T.n_len PySem.boot_len (jJa (jJc 2) jJg)) (fun _ _=>rfl)))
   (jJf (jJ9 (i:=4) nd (jJ3 (ok_led T) (hr.mono (by decide)) (jJa (jJc 0) (jJa (e_ix (ix_F hu) (jJc 3) jJj (fun _ _=>rfl)) jJg))))
   (jJf (jJ9 (i:=5) nd (jQo jJg))
   (jJf (jV2 PassesOwn.never rfl (jQf rfl T.n_range (jJa (e_ix (ix_F hu) (jJ7 (jJv T) (hr.mono (by decide)) (jJc 0)) jJj (fun _ _=>rfl)) jJg)) (jKa (i:=6) nd) (jJf (jJ9 (i:=7) nd (e_ix (ix_F hu) (jZo (jKr T) (hr.mono (by decide)) (jJc 0) (jJa (jJc 6) jJg)) jJj (fun _ _=>rfl)))
   (jJf (jJ9 (i:=8) nd (jJ3 (jZ1 T) (hr.mono (by decide)) (jJa (jJc 0) (jJa (jJc 1) jJg))))
   (jJf (s_if (jKz (jZe hr.units) (jJc 8) (jJp jKy (by rfl) T.n_len PySem.boot_len (jJa (jJc 1) jJg)) (jJr _)) (jJk (jKg (e_bm PySem.F.plainAttrs_list PySem.F.slot_list_append PySem.F.type_list_append jK6 (jJc 1) (jJa (jUb (jJa (e_op qQ4 (e_ix (ix_F hu) (jJc 3) jJj (fun _ _=>rfl)) (jUb (jJa (jJc 6) jJg))) (jJa (e_op qQ4 (e_ix (ix_F hu) (jJc 3) jJj (fun _ _=>rfl)) (jUb (jJa (jJc 7) jJg))) jJg))) jJg)))) jKe)
   (jJf (jKg (e_bm PySem.F.plainAttrs_list PySem.F.slot_list_append PySem.F.type_list_append jK6 (jJc 5) (jJa (jUb (jJa (jJc 8) (jJa (jJc 7) jJg))) jJg)))
   (jJk (jKg (jZo (jKr T) (hr.mono (by decide)) (jJc 0) (jJa (jJc 7) jJg)))))))))
   (jJf (jKg (jJ3 (jY9 T) (hr.mono (by decide)) (jJa (jJc 0) (jJa (jJc 4) jJg))))
   (jJk (jKg (e_bm PySem.F.plainAttrs_list PySem.F.slot_list_append PySem.F.type_list_append jK6 (jJc 2) (jJa (jKo jUc (by rfl) T.n_tuple rfl (jJa (jJc 5) jJg)) jJg))))))))))
   (jJk (jKd (jKo jUc (by rfl) T.n_tuple rfl (jJa (jJc 2) jJg)))))))
theorem jV6 (T:Txt K mg):CalX P w K mg base 7 "mapped" ["walker"] jK1:=
 qV4 T.f_mapped kQz (m:=kQ9) fun _ _ _ _ _ _ _ R hr hu nd hx=>
  (jJf (s_if (jKz (jZe hr.units) (jJ7 (jKu T) (hr.mono (by decide)) (jJc 0)) jJj (jJr _)) (jJk (kU0 hx T.x_NoStone rfl (jJa jVz jJg))) jKe)
   (jJf (jKg (jJ7 (jUr T) (hr.mono (by decide)) (jJc 0)))
   (jJf (jJ9 (i:=1) nd (jJ3 (jZc T) (hr.mono (by decide)) (jJa (jJc 0) jJg)))
   (jJf (jKg (jJ7 (jVl T) (hr.mono (by decide)) (jJc 0)))
   (jJk (jKd (jJc 1)))))))
theorem kJc (T:Txt K mg):CalX P w K mg base 8 "counted" ["walker"] jQp:=
 qV4 T.f_counted kKq (m:=kKz) fun _ _ _ _ _ _ _ R hr hu nd hx=>
  (jJk (jKd (jJp jKy (by rfl) T.n_len PySem.boot_len (jJa (kK9 (jV6 T) hx (hr.mono (by decide)) (jJa (jJc 0) jJg)) jJg))))
theorem jU8 (T:Txt K mg):CalX P w K mg base 7 "mapped_round" ["walker","most"] jKf:=
 qV4 T.f_mapped_round jXk (m:=jXr) fun _ _ _ _ _ _ _ R hr hu nd hx=>
  (jJf (s_if (jKz (jZe hr.units) (e_ix (ix_F hu) (jJ7 (jJv T) (hr.mono (by decide)) (jJc 0)) jJj (fun _ _=>rfl)) jJj (jJr _)) (jJk (kU0 hx T.x_NoStone rfl (jJa jVz jJg))) jKe)
   (jJk (jKd (jJ3 (jZc T) (hr.mono (by decide)) (jJa (jJc 0) jJg)))))
theorem jQa (T:Txt K mg):Cal P w K mg base 1 "onlooker" ["walker"] jKq:=
 cal3 T.f_onlooker kJx fun _ _ _ _ _ _ _ hr hu nd=>
  (jJk (jKd (jUb (jJa (jQu (jJ2 T) (jJc 0)) (jJa (jKo jUc (by rfl) T.n_tuple rfl (jJa (jJp qJk (by rfl) T.n_sorted rfl (jJa (jQu (jKm T) (jJc 0)) jJg)) jJg)) jJg)))))
theorem kV8 (T:Txt K mg):Cal P w K mg base 1 "_law_drawn" ["_law_script"] jXi:=
 cal3 T.f_l_drawn kKp fun _ _ _ _ _ _ _ hr hu nd=>
  (jJk (jKd (qVv jVz (e_op o_addF (jKo qV5 (by rfl) T.n_list rfl (jJa (jJc 0) jJg)) (e_op jX0 (jQo (jJa jJj jJg)) (jKo c_int (by rfl) T.n_int rfl (jJa (kZ6 (jZe hr.units) (jJp jKy (by rfl) T.n_len PySem.boot_len (jJa (jJc 0) jJg)) jJj (jJr _)) jJg)))) jVz jJj jVz jJj)))
theorem jJy (T:Txt K mg):Cal P w K mg base 1 "_law_pick" ["_law_draw","_law_many"] jJq:=
 cal3 T.f_l_pick kQ1 fun _ _ _ _ _ _ _ hr hu nd=>
  (jJf (s_if (jKz o_gt (e_ix (ix_F hu) (jJc 0) jVz (fun _ _=>rfl)) jJj (jJr _)) (jJf (jJ9 (i:=2) nd (e_op jZ4 (e_ix (ix_F hu) (jJc 0) jVz (fun _ _=>rfl)) (jJc 1)))
   (jJf (qJ8 (e_op kVb (e_ix (ix_F hu) (jJc 0) jVz (fun _ _=>rfl)) (jJc 1)) (qQg (jJc 0) jVz (s_F hu)))
   (jJk (jKd (jJc 2))))) jKe)
   (jJf (jJ9 (i:=3) nd (e_ix (ix_F hu) (jJc 0) jVz (fun _ _=>rfl)))
   (jJf (jJ9 (i:=4) nd (e_ix (ix_F hu) (e_ix (ix_F hu) (jJc 0) jVz (fun _ _=>rfl)) (e_op jZ4 (jJc 3) (jJp jKy (by rfl) T.n_len PySem.boot_len (jJa (e_ix (ix_F hu) (jJc 0) jVz (fun _ _=>rfl)) jJg))) (fun _ _=>rfl)))
   (jJf (qJ8 (e_op o_addF (jJc 3) jJj) (qQg (jJc 0) jVz (s_F hu)))
   (jJf (s_if (PW3.pt (kXt (jKz o_lt (jJc 3) (jJp jKy (by rfl) T.n_len PySem.boot_len (jJa (e_ix (ix_F hu) (jJc 0) jVz (fun _ _=>rfl)) jJg)) (jJr _)) (kUr (jKz o_ge (jJc 4) (e_op o_pow jJj jJj) (jJr _))))) (jJf (qJ8 (e_op kVb (jJc 4) (jJc 1)) (qQg (jJc 0) jVz (s_F hu)))
   (jJk (jKd (e_op jZ4 (jJc 4) (jJc 1))))) jKe)
   (jJf (jJ9 (i:=5) nd (e_op jZ4 (e_op jX0 (e_op o_addF (e_op o_addF (e_op jZ4 (jJc 4) jJj) (e_op jX0 (e_op jX0 (jJc 3) (jJc 3)) jJj)) jJj) jJj) jJj))
   (jJf (jJ9 (i:=5) nd (e_op o_addF (e_op jZ4 (e_op jX0 (jJc 5) (jJc 5)) jJj) (jJc 3)))
   (jJk (jKd (e_op jZ4 (e_op kVb (e_op jZ4 (e_op jX0 (jJc 5) (e_op o_addF (e_op kVb (jJc 5) jJj) jJj)) jJj) jJj) (jJc 1)))))))))))
theorem jZ3 (T:Txt K mg):Cal P w K mg base 2 "_law_some_ties" ["_law_draw","_law_ends","_law_doors","_law_many"] jQe:=
 cal3 T.f_l_some_ties jX4 fun _ _ _ _ _ _ _ hr hu nd=>
  (jJk (jV2 PassesOwn.never rfl (jQf rfl T.n_range (jJa (jJ3 (jJy T) (hr.mono (by decide)) (jJa (jJc 0) (jJa (e_op o_addF (e_op jX0 jJj (jJp jKy (by rfl) T.n_len PySem.boot_len (jJa (jJc 1) jJg))) jJj) jJg))) jJg)) (jKa (i:=4) nd) (jJf (qQy (i:=5) (mask:=[false,false,false,false,false,false,false,false,true]) rfl nd ⟨rfl,rfl,rfl,rfl,rfl,rfl,rfl⟩ (jQf rfl T.n_range (jJa (jJp jKy (by rfl) T.n_len PySem.boot_len (jJa (jJc 1) jJg)) jJg)) jQb (fun C fp s H=>(jKa (i:=8) nd)) (fun C fp s H=>(qQ8 (jKz o_lt (jJp jKy (by rfl) T.n_len PySem.boot_len (jJa (e_ix (ix_F hu) (jJc 1) (jJc 8) (fun _ _=>rfl)) jJg)) (jJc 2) (jJr _)))) (fun C fp s H=>(jJc 8)))
   (jJk (s_if (jKz (qKt hr.units) (jJc 5) (jQo jJg) (jJr _)) (jJf (jJ9 (i:=6) nd (e_ix (ix_F hu) (jJc 5) (jJ3 (jJy T) (hr.mono (by decide)) (jJa (jJc 0) (jJa (jJp jKy (by rfl) T.n_len PySem.boot_len (jJa (jJc 5) jJg)) jJg))) (fun _ _=>rfl)))
   (jJf (jJ9 (i:=7) nd (e_ix (ix_F hu) (jJc 5) (jJ3 (jJy T) (hr.mono (by decide)) (jJa (jJc 0) (jJa (jJp jKy (by rfl) T.n_len PySem.boot_len (jJa (jJc 5) jJg)) jJg))) (fun _ _=>rfl)))
   (jJf (jKg (e_bm PySem.F.plainAttrs_list PySem.F.slot_list_insert PySem.F.type_list_insert kJ5 (e_ix (ix_F hu) (jJc 1) (jJc 6) (fun _ _=>rfl)) (jJa (jJ3 (jJy T) (hr.mono (by decide)) (jJa (jJc 0) (jJa (e_op o_addF (jJp jKy (by rfl) T.n_len PySem.boot_len (jJa (e_ix (ix_F hu) (jJc 1) (jJc 6) (fun _ _=>rfl)) jJg)) jJj) jJg))) (jJa (jUb (jJa (jJc 3) (jJa jJj jJg))) jJg))))
   (jJf (s_if (PW3.pt (kXt (jKz o_lt (jJp jKy (by rfl) T.n_len PySem.boot_len (jJa (e_ix (ix_F hu) (jJc 1) (jJc 7) (fun _ _=>rfl)) jJg)) (jJc 2) (jJr _)) (kUr (jKz o_gt (jJ3 (jJy T) (hr.mono (by decide)) (jJa (jJc 0) (jJa jJj jJg))) jJj (jJr _))))) (jJk (jKg (e_bm PySem.F.plainAttrs_list PySem.F.slot_list_insert PySem.F.type_list_insert kJ5 (e_ix (ix_F hu) (jJc 1) (jJc 7) (fun _ _=>rfl)) (jJa (jJ3 (jJy T) (hr.mono (by decide)) (jJa (jJc 0) (jJa (e_op o_addF (jJp jKy (by rfl) T.n_len PySem.boot_len (jJa (e_ix (ix_F hu) (jJc 1) (jJc 7) (fun _ _=>rfl)) jJg)) jJj) jJg))) (jJa (jUb (jJa (jJc 3) (jJa jJj jJg))) jJg))))) jKe)
   (jJk (jJ9 (i:=3) nd (e_op o_addF (jJc 3) jJj))))))) jKe)))))
theorem qKs (T:Txt K mg):Cal P w K mg base 3 "_law_web" ["_law_draw","_law_count","_law_doors"] kJr:=
 cal3 T.f_l_web kV5 fun _ _ _ _ _ _ _ hr hu nd=>
  (jJf (jJ9 (i:=3) nd (jXe (mask:=[false,false,false,false,true,false,false,false,false,false,false]) rfl ⟨rfl,rfl,rfl,rfl,rfl,rfl,rfl⟩ (jQf rfl T.n_range (jJa (jJc 1) jJg)) jQb (fun C fp s H=>(jKa (i:=4) nd)) (fun C fp s H=>jXb) (fun C fp s H=>(jQo jJg))))
   (jJf (jV2 PassesOwn.never rfl (kVi rfl T.n_range (jJa jJj (jJa (jJc 1) jJg))) (jKa (i:=4) nd) (jJf (qQy (i:=5) (mask:=[false,false,false,false,false,false,true,false,false,false,false]) rfl nd ⟨rfl,rfl,rfl,rfl,rfl,rfl,rfl⟩ (jQf rfl T.n_range (jJa (jJc 4) jJg)) jQb (fun C fp s H=>(jKa (i:=6) nd)) (fun C fp s H=>(qQ8 (jKz o_lt (jJp jKy (by rfl) T.n_len PySem.boot_len (jJa (e_ix (ix_F hu) (jJc 3) (jJc 6) (fun _ _=>rfl)) jJg)) (jJc 2) (jJr _)))) (fun C fp s H=>(jJc 6)))
   (jJf (jJ9 (i:=6) nd (e_ix (ix_F hu) (jJc 5) (jJ3 (jJy T) (hr.mono (by decide)) (jJa (jJc 0) (jJa (jJp jKy (by rfl) T.n_len PySem.boot_len (jJa (jJc 5) jJg)) jJg))) (fun _ _=>rfl)))
   (jJf (jKg (e_bm PySem.F.plainAttrs_list PySem.F.slot_list_insert PySem.F.type_list_insert kJ5 (e_ix (ix_F hu) (jJc 3) (jJc 6) (fun _ _=>rfl)) (jJa (jJ3 (jJy T) (hr.mono (by decide)) (jJa (jJc 0) (jJa (e_op o_addF (jJp jKy (by rfl) T.n_len PySem.boot_len (jJa (e_ix (ix_F hu) (jJc 3) (jJc 6) (fun _ _=>rfl)) jJg)) jJj) jJg))) (jJa (jUb (jJa (e_op kV9 (jJc 4) jJj) (jJa jJj jJg))) jJg))))
   (jJk (jKg (e_bm PySem.F.plainAttrs_list PySem.F.slot_list_append PySem.F.type_list_append jK6 (e_ix (ix_F hu) (jJc 3) (jJc 4) (fun _ _=>rfl)) (jJa (jUb (jJa (e_op kV9 (jJc 4) jJj) (jJa jJj jJg))) jJg))))))))
   (jJf (jKg (jJ3 (jZ3 T) (hr.mono (by decide)) (jJa (jJc 0) (jJa (jJc 3) (jJa (jJc 2) (jJa (jJp (c_max rfl) (by rfl) T.n_max rfl (jJa jJj (jJa (e_op kV9 (jJc 1) jJj) jJg))) jJg))))))
   (jJf (jJ9 (i:=7) nd e_dct)
   (jJf (jV2 PassesOwn.never rfl (jQf rfl T.n_range (jJa (jJc 1) jJg)) (jKa (i:=4) nd) (jJk (jV2 PassesOwn.never rfl (kZj rfl T.n_enumerate rfl (jJa (e_ix (ix_F hu) (jJc 3) (jJc 4) (fun _ _=>rfl)) jJg)) (qQf rfl (jVb (jKa (i:=8) nd) (jVb (jKa (i:=9) nd) kVj))) (jJk (qJ8 (jUb (jJa (jJc 4) (jJa (jJc 8) jJg))) (qQg (jJc 7) (jJc 9) (s_F hu)))))))
   (jJf (jJ9 (i:=10) nd (jQo jJg))
   (jJf (jV2 PassesOwn.never rfl (jQf rfl T.n_range (jJa (jJc 1) jJg)) (jKa (i:=4) nd) (jJk (jKg (e_bm PySem.F.plainAttrs_list PySem.F.slot_list_append PySem.F.type_list_append jK6 (jJc 10) (jJa (jKo jUc (by rfl) T.n_tuple rfl (jJa (jXe (mask:=[false,false,false,false,false,false,false,false,false,true,false]) rfl ⟨rfl,rfl,rfl,rfl,rfl,rfl,rfl⟩ (kUf (e_ix (ix_F hu) (jJc 3) (jJc 4) (fun _ _=>rfl))) jQb (fun C fp s H=>(jKa (i:=9) nd)) (fun C fp s H=>jXb) (fun C fp s H=>(e_bm PySem.F.plainAttrs_dict PySem.F.slot_dict_get PySem.F.type_dict_get (m_getZ hu) (jJc 7) (jJa (jUb (jJa (e_ix (ix_F hu) (jJc 9) jJj (fun _ _=>rfl)) (jJa (e_op kV9 jJj (e_ix (ix_F hu) (jJc 9) jJj (fun _ _=>rfl))) jJg))) (jJa (e_ix (ix_F hu) (jJc 7) (jJc 9) (fun _ _=>rfl)) jJg))))) jJg)) jJg)))))
   (jJk (jKd (jKo jUc (by rfl) T.n_tuple rfl (jJa (jJc 10) jJg)))))))))))
theorem kY0 (T:Txt K mg):Cal P w K mg base 1 "_law_ring" ["_law_count","_law_doors"] jYw:=
 cal3 T.f_l_ring kQ0 fun _ _ _ _ _ _ _ hr hu nd=>
  (jJf (jJ9 (i:=2) nd (jQo jJg))
   (jJf (jV2 PassesOwn.never rfl (jQf rfl T.n_range (jJa (jJc 0) jJg)) (jKa (i:=3) nd) (jJf (jJ9 (i:=4) nd (jQo (jJa (jUb (jJa (e_op jZ4 (e_op o_addF (jJc 3) jJj) (jJc 0)) (jJa jJj jJg))) (jJa (jUb (jJa (e_op jZ4 (e_op kV9 (e_op o_addF (jJc 3) (jJc 0)) jJj) (jJc 0)) (jJa jJj jJg))) jJg))))
   (jJk (jKg (e_bm PySem.F.plainAttrs_list PySem.F.slot_list_append PySem.F.type_list_append jK6 (jJc 2) (jJa (jKo jUc (by rfl) T.n_tuple rfl (jJa (e_op o_addF (jJc 4) (jXe (mask:=[false,false,false,false,false,true]) rfl ⟨rfl,rfl,rfl,rfl,rfl,rfl,rfl⟩ (kVi rfl T.n_range (jJa jJj (jJa (jJc 1) jJg))) jQb (fun C fp s H=>(jKa (i:=5) nd)) (fun C fp s H=>jXb) (fun C fp s H=>(jUb (jJa (jJc 3) (jJa (jJc 5) jJg)))))) jJg)) jJg))))))
   (jJk (jKd (jKo jUc (by rfl) T.n_tuple rfl (jJa (jJc 2) jJg))))))
theorem kJ2 (T:Txt K mg):Cal P w K mg base 4 "_law_some_web" ["_law_draw","_law_most","_law_doors"] jUl:=
 cal3 T.f_l_some_web jY2 fun _ _ _ _ _ _ _ hr hu nd=>
  (jJf (jJ9 (i:=3) nd (e_op o_addF jJj (jJ3 (jJy T) (hr.mono (by decide)) (jJa (jJc 0) (jJa (jJc 1) jJg)))))
   (jJf (s_if (jKz (jZe hr.units) (jJ3 (jJy T) (hr.mono (by decide)) (jJa (jJc 0) (jJa jJj jJg))) jJj (jJr _)) (jJk (jKd (jJ3 (kY0 T) (hr.mono (by decide)) (jJa (jJc 3) (jJa (e_ix (ix_F hu) (jQo (jJa jJj (jJa (jJc 2) jJg))) (jJ3 (jJy T) (hr.mono (by decide)) (jJa (jJc 0) (jJa jJj jJg))) (fun _ _=>rfl)) jJg))))) jKe)
   (jJk (jKd (jJ3 (qKs T) (hr.mono (by decide)) (jJa (jJc 0) (jJa (jJc 3) (jJa (e_ix (ix_F hu) (jQo (jJa (jJc 2) (jJa (jJp (qUe rfl) (by rfl) T.n_min rfl (jJa (jJc 2) (jJa jJj jJg))) jJg))) (jJ3 (jJy T) (hr.mono (by decide)) (jJa (jJc 0) (jJa jJj jJg))) (fun _ _=>rfl)) jJg))))))))
theorem jZ2 (T:Txt K mg):Cal P w K mg base 1 "_law_told_from" ["_law_web_here","_law_room"] jQd:=
 cal3 T.f_l_told_from jX3 fun _ _ _ _ _ _ _ hr hu nd=>
  (jJf (jJ9 (i:=2) nd (jQo (jJa (jJc 1) jJg)))
   (jJf (jJ9 (i:=3) nd jJj)
   (jJf (kQv PassesOwn.never (jKz o_lt (jJc 3) (jJp jKy (by rfl) T.n_len PySem.boot_len (jJa (jJc 2) jJg)) (jJr _)) (jJf (jV2 PassesOwn.never rfl (kUf (e_ix (ix_F hu) (jJc 0) (e_ix (ix_F hu) (jJc 2) (jJc 3) (fun _ _=>rfl)) (fun _ _=>rfl))) (jKa (i:=4) nd) (jJk (s_if (jKz (jZd hu) (e_ix (ix_F hu) (jJc 4) jJj (fun _ _=>rfl)) (jJc 2) (jJr _)) (jJk (jKg (e_bm PySem.F.plainAttrs_list PySem.F.slot_list_append PySem.F.type_list_append jK6 (jJc 2) (jJa (e_ix (ix_F hu) (jJc 4) jJj (fun _ _=>rfl)) jJg)))) jKe)))
   (jJk (jJ9 (i:=3) nd (e_op o_addF (jJc 3) jJj)))))
   (jJf (jJ9 (i:=5) nd (jKo (qV6 rfl) (by rfl) T.n_dict rfl (jJa (jXe (mask:=[false,false,false,false,false,false,true,true]) rfl ⟨rfl,rfl,rfl,rfl,rfl,rfl,rfl⟩ (kZj rfl T.n_enumerate rfl (jJa (jJc 2) jJg)) (qQ9 (kJ8 jQb jXw (kJ8 jQb jXw qUa kVk) (kZp jXw kVk))) (fun C fp s H=>(qQf rfl (jVb (jKa (i:=6) nd) (jVb (jKa (i:=7) nd) kVj)))) (fun C fp s H=>jXb) (fun C fp s H=>(jUb (jJa (jJc 7) (jJa (jJc 6) jJg))))) jJg)))
   (jJk (jKd (jKo jUc (by rfl) T.n_tuple rfl (jJa (jXe (mask:=[false,false,false,false,false,false,false,true]) rfl ⟨rfl,rfl,rfl,rfl,rfl,rfl,rfl⟩ (kUf (jJc 2)) jQb (fun C fp s H=>(jKa (i:=7) nd)) (fun C fp s H=>jXb) (fun C fp s H=>(jKo jUc (by rfl) T.n_tuple rfl (jJa (jXe (mask:=[false,false,false,false,true,false,false,false]) rfl ⟨rfl,rfl,rfl,rfl,rfl,rfl,rfl⟩ (kUf (e_ix (ix_F hu) (jJc 0) (jJc 7) (fun _ _=>rfl))) jQb (fun C fp s H=>(jKa (i:=4) nd)) (fun C fp s H=>jXb) (fun C fp s H=>(jUb (jJa (e_ix (ix_F hu) (jJc 5) (e_ix (ix_F hu) (jJc 4) jJj (fun _ _=>rfl)) (fun _ _=>rfl)) (jJa (e_ix (ix_F hu) (jJc 4) jJj (fun _ _=>rfl)) jJg))))) jJg)))) jJg))))))))
theorem kKv (T:Txt K mg):Cal P w K mg base 3 "_law_gone_on" ["_law_draw","_law_walker"] jU0:=
 cal3 T.f_l_gone_on jZy fun _ _ _ _ _ _ _ hr hu nd=>
  (jJf (jV2 PassesOwn.never rfl (jQf rfl T.n_range (jJa (jJ3 (jJy T) (hr.mono (by decide)) (jJa (jJc 0) (jJa jJj jJg))) jJg)) (jKa (i:=2) nd) (jJf (jJ9 (i:=3) nd (e_ix (ix_F hu) (jJ7 (jJv T) (hr.mono (by decide)) (jJc 1)) jJj (fun _ _=>rfl)))
   (jJk (s_if (jKz o_gt (jJc 3) jJj (jJr _)) (jJk (jKg (jZo (jKr T) (hr.mono (by decide)) (jJc 1) (jJa (jJ3 (jJy T) (hr.mono (by decide)) (jJa (jJc 0) (jJa (jJc 3) jJg))) jJg)))) jKe))))
   (jJk (jKd (e_ix (ix_F hu) (jJ3 (jQa T) (hr.mono (by decide)) (jJa (jJc 1) jJg)) jJj (fun _ _=>rfl)))))
theorem jVe {j:Nat} {sp sp':Sp3} (T:Txt K mg) (C_l_same:Cal P w K mg base (j) "_law_same" ["_law_found","_law_due"] sp) (h:∀xs G Q,sp' xs G Q->jUf sp {nx:=fun _ G'=>Q .non G',rt:=Q} (jKj jYr xs) G) (m:Mono sp':=by unfold jZw;(intro xs G Q Q' hq;(repeat' (first | (refine Exists.imp fun _=> ?_) | (refine And.imp_right ?_)));intro k;intros;apply hq;apply k<;>assumption)) (n:∀xs G Q,sp' xs G Q->xs.length=(["_law_found","_law_due"]:List Str).length:=by (intro xs G Q h;repeat (first | exact (congrArg List.length h.1).trans rfl | obtain⟨_,h⟩:=h))):Cal P w K mg base (j+1) "_law_same" ["_law_found","_law_due"] sp':=
 cal3 T.f_l_same h (fun _ _ _ _ _ _ _ hr hu nd=>(jJf (s_if (jX1 (jJp qQq (by rfl) T.n_isinstance rfl (jJa (jJc 1) (jJa (e_ty rfl T.n_tuple rfl) jJg)))) (jJf (s_if (PW3.pt (w_or (jZv (jX1 (jJp qQq (by rfl) T.n_isinstance rfl (jJa (jJc 0) (jJa (e_ty rfl T.n_tuple rfl) jJg))))) (qUh (jKz (qKt hr.units) (jJp jKy (by rfl) T.n_len PySem.boot_len (jJa (jJc 0) jJg)) (jJp jKy (by rfl) T.n_len PySem.boot_len (jJa (jJc 1) jJg)) (jJr _))))) (jJk (jKd e_bl)) jKe)
   (jJk (jKd (jJp (c_all rfl) (by rfl) T.n_all rfl (jJa (jXe (mask:=[false,false,true,true]) rfl ⟨rfl,rfl,rfl,rfl,rfl,rfl,rfl⟩ (i_zip rfl T.n_zip rfl (jJa (jJc 0) (jJa (jJc 1) jJg))) (qQ9 (kJ8 jQb jXw (kJ8 jQb jXw qUa kVk) (kZp jXw kVk))) (fun C fp s H=>(qQf rfl (jVb (jKa (i:=2) nd) (jVb (jKa (i:=3) nd) kVj)))) (fun C fp s H=>jXb) (fun C fp s H=>(jJ3 C_l_same hr (jJa (jJc 2) (jJa (jJc 3) jJg))))) jJg))))) jKe)
   (jJk (jKd (kZ7 (jJp qQq (by rfl) T.n_isinstance rfl (jJa (jJc 0) (jJa (e_ty rfl T.n_int rfl) jJg))) (kZ7 (e_not (jJp qQq (by rfl) T.n_isinstance rfl (jJa (jJc 0) (jJa (e_ty rfl T.n_bool rfl) jJg)))) (qQm (kZ6 (jZe hr.units) (jJc 0) (jJc 1) (jJr _))))))))) (m:=m) (n:=n)
theorem jZb (T:Txt K mg):Cal P w K mg base 4 "_law_same" ["_law_found","_law_due"] (jZw 3):=
 jVe (j:=3) (sp':=jZw 3) T (jVe (j:=2) (sp':=jZw 2) T (jVe (j:=1) (sp':=jZw 1) T (jVe (j:=0) (sp':=jZw 0) T (cal0 T.f_l_same) (jXy _)) (jVq 0)) (jVq 1)) (jVq 2)
theorem kKu (T:Txt K mg):Cal P w K mg base 9 "_law_refused" ["_law_walker","_law_which"] jUz:=
 cal3 T.f_l_refused jZx fun _ _ _ _ _ _ _ hr hu nd=>
  (jJf (jJ9 (i:=2) nd e_non)
   (jJf (s_try (i:=3) (cs:=["NoStone"]) (fun _ _ h=>h) nd (jYv (sx_if (fun _ _ h=>h) (jKz (jZe hr.units) (jJc 1) jJj (jJr _)) (jYv (kQt (kZy (fun _ _ h=>h) (jV6 T) (hr.mono (by decide)) (jJa (jJc 0) jJg)))) (jYv (sx_if (fun _ _ h=>h) (jKz (jZe hr.units) (jJc 1) jJj (jJr _)) (jYv (kQt (kZy (fun _ _ h=>h) (kJc T) (hr.mono (by decide)) (jJa (jJc 0) jJg)))) (jYv (kQt (kZy (fun _ _ h=>h) (jU8 T) (hr.mono (by decide)) (jJa (jJc 0) (jJa jJj jJg))))))))) (fun a=>(jJk (jJ9 (i:=2) nd (jJc 3)))) T.t_WebError)
   (jJf (s_if (jX1 (e_isiT (rel:=[("NoStone",false)]) T.i_BadRow_Clash_NoDoor_NoMark_NotWhole_NoWeb_TooMany (NmL.cons T.v_BadRow (NmL.cons T.v_Clash (NmL.cons T.v_NoDoor (NmL.cons T.v_NoMark (NmL.cons T.v_NotWhole (NmL.cons T.v_NoWeb (NmL.cons T.v_TooMany NmL.nil))))))) (by decide) (jJc 2) T.n_isinstance)) (jJk (jKd e_bl)) jKe)
   (jJk (jKd (kZ7 (qUc (rel:=[("NoStone",true)]) T.i_NoStone T.v_NoStone (jJc 2) T.n_isinstance) (qQm (qUc (rel:=[("NoStone",true)]) T.i_ValueError T.v_ValueError (jJc 2) T.n_isinstance))))))))
theorem jKk (T:Txt K mg):Cal P w K mg base 10 "_law_all_refused" ["_law_walker","_law_some"] jJs:=
 cal3 T.f_l_all_refused jV4 fun _ _ _ _ _ _ _ hr hu nd=>
  (jJf (jJ9 (i:=2) nd (jQo (jJa (jJ3 (jQa T) (hr.mono (by decide)) (jJa (jJc 0) jJg)) (jJa (jJ7 (jJv T) (hr.mono (by decide)) (jJc 0)) (jJa (jJ7 (jKu T) (hr.mono (by decide)) (jJc 0)) (jJa (jJ7 (jU9 T) (hr.mono (by decide)) (jJc 0)) jJg))))))
   (jJf (jV2 PassesOwn.never rfl (kUf (jJc 1)) (jKa (i:=3) nd) (jJf (s_if (jZv (jX1 (jJ3 (kKu T) (hr.mono (by decide)) (jJa (jJc 0) (jJa (jJc 3) jJg))))) (jJk (jKd e_bl)) jKe)
   (jJk (s_if (jKz (o_neD hr.units) (jQo (jJa (jJ3 (jQa T) (hr.mono (by decide)) (jJa (jJc 0) jJg)) (jJa (jJ7 (jJv T) (hr.mono (by decide)) (jJc 0)) (jJa (jJ7 (jKu T) (hr.mono (by decide)) (jJc 0)) (jJa (jJ7 (jU9 T) (hr.mono (by decide)) (jJc 0)) jJg))))) (jJc 2) (jJr _)) (jJk (jKd e_bl)) jKe))))
   (jJk (jKd e_bl))))
theorem kY1 (T:Txt K mg):Cal P w K mg base 3 "_law_laid" ["_law_draw","_law_walker"] jYx:=
 cal3 T.f_l_laid kQ2 fun _ _ _ _ _ _ _ hr hu nd=>
  (jJf (jJ9 (i:=2) nd (jQo jJg))
   (jJf (kQv PassesOwn.never (jKz o_gt (jJ7 (jKu T) (hr.mono (by decide)) (jJc 1)) jJj (jJr _)) (jJf (jKg (e_bm PySem.F.plainAttrs_list PySem.F.slot_list_append PySem.F.type_list_append jK6 (jJc 2) (jJa (e_ix (ix_F hu) (jJ3 (jQa T) (hr.mono (by decide)) (jJa (jJc 1) jJg)) jJj (fun _ _=>rfl)) jJg)))
   (jJf (jKg (jJ7 (jUr T) (hr.mono (by decide)) (jJc 1)))
   (jJk (s_if (PW3.pt (kXt (jKz o_gt (e_ix (ix_F hu) (jJ7 (jJv T) (hr.mono (by decide)) (jJc 1)) jJj (fun _ _=>rfl)) jJj (jJr _)) (kUr (jKz (jZe hr.units) (jJ3 (jJy T) (hr.mono (by decide)) (jJa (jJc 0) (jJa jJj jJg))) jJj (jJr _))))) (jJk (jKg (jZo (jKr T) (hr.mono (by decide)) (jJc 1) (jJa (jJ3 (jJy T) (hr.mono (by decide)) (jJa (jJc 0) (jJa (e_ix (ix_F hu) (jJ7 (jJv T) (hr.mono (by decide)) (jJc 1)) jJj (fun _ _=>rfl)) jJg))) jJg)))) jKe)))))
   (jJk (jKd (jJc 2)))))
theorem jZa (T:Txt K mg):Cal P w K mg base 11 "_law_then_right" ["_law_web_here"] jQq:=
 cal3 T.f_l_then_right jXl fun _ _ _ _ _ _ _ hr hu nd=>
  (jJf (jJ9 (i:=1) nd (jJ3 (jZ2 T) (hr.mono (by decide)) (jJa (jJc 0) (jJa jJj jJg))))
   (jJf (jJ9 (i:=2) nd (kZ5 (jUa T) (hr.mono (by decide)) (jJa (jJc 0) (jJa jJj (jJa jJj jJg)))))
   (jJf (s_if (PW3.pt (w_or (jZv (jX1 (jJ3 (jKk T) (hr.mono (by decide)) (jJa (jJc 2) (jJa (jQo (jJa jJj jJg)) jJg))))) (w_or (jZv (jX1 (jJ3 (jZb T) (hr.mono (by decide)) (jJa (kK9 (jV6 T) qJx (hr.mono (by decide)) (jJa (jJc 2) jJg)) (jJa (jJc 1) jJg))))) (qUh (jKz (qKt hr.units) (kK9 (kJc T) qJx (hr.mono (by decide)) (jJa (jJc 2) jJg)) (jJp jKy (by rfl) T.n_len PySem.boot_len (jJa (jJc 0) jJg)) (jJr _)))))) (jJk (jKd e_bl)) jKe)
   (jJf (jKg (jJ7 (jUr T) (hr.mono (by decide)) (jJc 2)))
   (jJf (s_if (jZv (jX1 (jJ3 (jKk T) (hr.mono (by decide)) (jJa (jJc 2) (jJa (jQo (jJa jJj (jJa jJj (jJa jJj jJg)))) jJg))))) (jJk (jKd e_bl)) jKe)
   (jJf (s_if (PW3.pt (kXt (jKz o_lt (jJp jKy (by rfl) T.n_len PySem.boot_len (jJa (jJc 0) jJg)) jJj (jJr _)) (kXt (jKz o_lt (jJp (c_maxL rfl) (by rfl) T.n_max rfl (jJa (jXe (mask:=[false,false,false,true]) rfl ⟨rfl,rfl,rfl,rfl,rfl,rfl,rfl⟩ (kUf (jJc 0)) jQb (fun C fp s H=>(jKa (i:=3) nd)) (fun C fp s H=>jXb) (fun C fp s H=>(jJp jKy (by rfl) T.n_len PySem.boot_len (jJa (jJc 3) jJg)))) jJg)) jJj (jJr _)) (kUr (jZv (jX1 (jJ3 (jZb T) (hr.mono (by decide)) (jJa (kK9 (jU8 T) qJx (hr.mono (by decide)) (jJa (jJc 2) (jJa jJj jJg))) (jJa (jJc 1) jJg))))))))) (jJk (jKd e_bl)) jKe)
   (jJf (jKg (jJ7 (jVl T) (hr.mono (by decide)) (jJc 2)))
   (jJk (jKd (kZ7 (jJ3 (jKk T) (hr.mono (by decide)) (jJa (jJc 2) (jJa (jQo (jJa jJj jJg)) jJg))) (qQm (jJ3 (jZb T) (hr.mono (by decide)) (jJa (kK9 (jV6 T) qJx (hr.mono (by decide)) (jJa (jJc 2) jJg)) (jJa (jJc 1) jJg))))))))))))))
theorem ok_law (T:Txt K mg) {f:Addr} {fd:FuncData} (F:Fun K "law" "law" (top 38) f fd):Fn3 P w K mg base 12 f fd ["_law_script"] kX7:=by
 have S:FnScope N_law ["_law_script"] (jJl (top 38)):=⟨rfl,rfl,rfl,by decide +kernel,rfl,by decide +kernel,by decide +kernel⟩
 refine fn3 F S fun cdv A outer s H E hr=>⟨kU6,?_,qKg⟩
 have hu:=kZk hr
 have nd:=S.nd
 exact (jJf (jJ9 (i:=1) nd (jJ3 (kV8 T) (hr.mono (by decide)) (jJa (jJc 0) jJg)))
   (jJf (jV2 PassesOwn.never rfl (jQf rfl T.n_range (jJa (e_op o_addF jJj (jJp (qUe rfl) (by rfl) T.n_min rfl (jJa jJj (jJa (jJp jKy (by rfl) T.n_len PySem.boot_len (jJa (jJc 0) jJg)) jJg)))) jJg)) (jKa (i:=2) nd) (jJf (jJ9 (i:=3) nd (jJ3 (kJ2 T) (hr.mono (by decide)) (jJa (jJc 1) (jJa jJj (jJa (e_ix (ix_F hu) (jQo (jJa jJj (jJa jJj (jJa jJj jJg)))) (jJ3 (jJy T) (hr.mono (by decide)) (jJa (jJc 1) (jJa jJj jJg))) (fun _ _=>rfl)) jJg)))))
   (jJf (jJ9 (i:=4) nd (kZ5 (jUa T) (hr.mono (by decide)) (jJa (jJc 3) (jJa (jJ3 (jJy T) (hr.mono (by decide)) (jJa (jJc 1) (jJa (jJp jKy (by rfl) T.n_len PySem.boot_len (jJa (jJc 3) jJg)) jJg))) (jJa jJj jJg)))))
   (jJf (jKg (jJ3 (kKv T) (hr.mono (by decide)) (jJa (jJc 1) (jJa (jJc 4) jJg))))
   (jJf (s_if (jZv (jX1 (jJ3 (jKk T) (hr.mono (by decide)) (jJa (jJc 4) (jJa (jQo (jJa jJj (jJa jJj (jJa jJj (jJa jJj jJg))))) jJg))))) (jJk (jKd e_bl)) jKe)
   (jJf (jJ9 (i:=4) nd (kZ5 (jUa T) (hr.mono (by decide)) (jJa (jJc 3) (jJa (jJ3 (jJy T) (hr.mono (by decide)) (jJa (jJc 1) (jJa (jJp jKy (by rfl) T.n_len PySem.boot_len (jJa (jJc 3) jJg)) jJg))) (jJa (e_op o_addF jJj (jJ3 (jJy T) (hr.mono (by decide)) (jJa (jJc 1) (jJa jJj jJg)))) jJg)))))
   (jJf (jJ9 (i:=5) nd (jJ3 (kY1 T) (hr.mono (by decide)) (jJa (jJc 1) (jJa (jJc 4) jJg))))
   (jJf (jJ9 (i:=6) nd (e_op o_addF (jQo (jJa jJj (jJa jJj jJg))) (e_op jX0 (jQo (jJa jJj jJg)) (jKo c_int (by rfl) T.n_int rfl (jJa (kZ6 (jZd hu) (e_ix (ix_F hu) (jJ3 (jQa T) (hr.mono (by decide)) (jJa (jJc 4) jJg)) jJj (fun _ _=>rfl)) (jJc 5) (jJr _)) jJg)))))
   (jJf (s_if (PW3.pt (w_or (jZv (jX1 (jJ3 (jKk T) (hr.mono (by decide)) (jJa (jJc 4) (jJa (jJc 6) jJg))))) (qUh (jKz (qKt hr.units) (e_ix (ix_F hu) (jJ3 (jQa T) (hr.mono (by decide)) (jJa (jJc 4) jJg)) jJj (fun _ _=>rfl)) (jKo jUc (by rfl) T.n_tuple rfl (jJa (jJp qJk (by rfl) T.n_sorted rfl (jJa (jJc 5) jJg)) jJg)) (jJr _))))) (jJk (jKd e_bl)) jKe)
   (jJk (s_if (jZv (jX1 (jJ3 (jZa T) (hr.mono (by decide)) (jJa (jJc 3) jJg)))) (jJk (jKd e_bl)) jKe)))))))))))
   (jJk (jKd e_bl))))
def qUl (K:PySem.W.Frag):Sp:=dn K 1 kX7
theorem fn_at {K:PySem.W.Frag} {h:Heap} {mg:Str->Option Value} {x:Str} {i:Nat} {f:Addr} {oc:Value} {od an:Option Addr} {osl:Array (Option Value)} {kV doc pm cdv ct:Value} (X:K.In h) (G:h.Ns mainGlobals mg) (a:PySem.W.nsIn K mainGlobals x=some (some (.ref f)))
  (l:K.lookup f=some ⟨oc,od,.func (PySem.W.fnOf x x (jQl (top i)) (jKi (top i)) (jJl (top i)) .none kV doc pm an cdv ct),osl⟩) (c:PySem.W.codeIn K cdv x=true) (k:PySem.W.keepIn K (.ref f)=true):FnAt K mg x i:=⟨f,_,PySem.W.mg_of X G a,kZq l c k⟩
theorem all_mk {l:PySem.W.OpenLaw} {w:World} {K:PySem.W.Frag} {mg:Str->Option Value} {fa:Addr} (hfa:mg "law"=some (.ref fa)) (T:Txt K mg):
  ∃fd:FuncData,(∀(s:Shared) (v:Value),BindsTo s fd ⟨[v],[]⟩ [("_law_script",v)])/\∀base:Heap,K.In base->base.Ns mainGlobals mg->FnOk l.prog w K mg base CX0 12 fa fd ["_law_script"] (qUl K):=by
 obtain⟨f,fd,a,F⟩:=T.f_law
 cases hfa.symm.trans a
 refine⟨fd,fun s v=> ?_,fun base _ _=>ok_law T F⟩
 obtain⟨_,_,kV,doc,pm,an,cdv,ct,_,e,_⟩:=F.ex
 subst e
 exact .of_eq rfl
theorem me_at {K:PySem.W.Frag} {C:Addr} {m q:Str} {st:Stmt} {f:Addr} {oc:Value} {od an:Option Addr} {osl:Array (Option Value)} {kV doc pm cdv ct:Value} (a:PySem.W.findIn K (.ref C) m=some (some (.ref f))) (i:PySem.W.isFn K (.ref f)=true) (l:K.lookup f=some ⟨oc,od,.func (PySem.W.fnOf m q (jQl st) (jKi st) (jJl st) .none kV doc pm an cdv ct),osl⟩) (c:PySem.W.codeIn K cdv q=true) (k:PySem.W.keepIn K (.ref f)=true):MeF K C m q st:=⟨f,_,⟨a,i,k⟩,kZq l c k⟩
theorem mk_at {K:PySem.W.Frag} {C:Addr} {q:Str} {st:Stmt} {f:Addr} {oc:Value} {od an:Option Addr} {osl:Array (Option Value)} {kV doc pm cdv ct:Value} (a:PySem.W.findIn K (.ref C) "__init__"=some (some (.ref f))) (i:PySem.W.isFn K (.ref f)=true) (mk:PySem.W.makesIn K C=true) (kc:PySem.W.keepIn K (.ref C)=true) (l:K.lookup f=some ⟨oc,od,.func (PySem.W.fnOf "__init__" q (jQl st) (jKi st) (jJl st) .none kV doc pm an cdv ct),osl⟩) (c:PySem.W.codeIn K cdv q=true) (k:PySem.W.keepIn K (.ref f)=true):MkF K C q st:=⟨f,_,⟨mk,a,i,kc⟩,kZq l c k⟩
theorem fr_of {K:PySem.W.Frag} {H:Hp} {a:Addr} {xs:List V} (hO:Only H) (hS:SqL K H a xs):FrL K H a xs:=by
 rcases hS with h | h
 ·rcases h with h | ⟨ob,h⟩
  ·rcases hO a with z | ⟨o,ys,z⟩
   ·rw[z] at h;cases h
   ·rw[z] at h;cases h
  ·exact .inl ⟨ob,h⟩
 ·exact .inr h
theorem jK3 {K:PySem.W.Frag} {H:Hp}:∀ns:List Int,Reps K H (jJu ns) (ns.map V.int)
 | []=>rfl
 | n::ns=>⟨_,_,rfl,rfl,jK3 ns⟩
theorem walk {l:PySem.W.OpenLaw} {q:Program} {loose:List Str} {XP:(Str->Option Value)->Heap->Prop} {YP:World->Heap->Prop} {d:DefRec} {K:Params->PySem.W.Frag} (hn:l.most=some 63) (hdf:d.params.defaults=[])
  (hY:∀(w:World) (h:Heap),YP w h->(K w.params).In h)
  (F:∀(w:World) (mg:Str->Option Value) (fa:Addr) (h:Heap),(K w.params).In h->h.Ns mainGlobals mg->mg d.name=some (.ref fa)->
   ∃fd:FuncData,(∀(s:Shared) (u:Value),BindsTo s fd ⟨[u],[]⟩ [("_law_script",u)])/\∀base:Heap,(K w.params).In base->base.Ns mainGlobals mg->FnOk l.prog w (K w.params) mg base CX0 12 fa fd ["_law_script"] (qUl (K w.params))):
  PySem.W.WalkO q loose XP YP l.row.toRowW d [] (fun f vs=>PySem.call f vs):=
 L2.walk_of (n:=63) (k:=12) (x:="_law_script") (CX:=fun _=>CX0) (sp:=fun w=>qUl (K w.params)) hn (by decide) hdf ⟨rfl,rfl,by decide,by decide⟩ hY F
  (fun _ _ a ns hl hO hS=>⟨rfl,[.scr (jJu ns)],fun _=>none,⟨_,_,rfl,⟨a,_,rfl,fr_of hO hS,jK3 ns⟩,rfl⟩,(fun _ _ h=>nomatch h),ns,rfl,hl,fun G' v H' _ _ r=>r⟩) fun _ _ _ _ _ z=>z
end W
def PySem.W.Fast.tw8144804282553481745 : Unit := ()
def PySem.W.Fast.tw11388061406429463182 : Unit := ()
def PySem.W.Fast.tw10149814100399257264 : Unit := ()
def PySem.W.Fast.tw10480080656380611138 : Unit := ()
def PySem.W.Fast.tw14127993763334894831 : Unit := ()
def PySem.W.Fast.tw1806186631043363279 : Unit := ()
def PySem.W.Fast.tw13220107570927468176 : Unit := ()
def PySem.W.Fast.tw14743963448360071071 : Unit := ()
def PySem.W.Fast.tw5225994252142292467 : Unit := ()
def PySem.W.Fast.tw7214895047738633213 : Unit := ()
def PySem.W.Fast.tw7953475056385314882 : Unit := ()
def PySem.W.Fast.tw1978413715003447527 : Unit := ()
def PySem.W.Fast.tw2089894465452888152 : Unit := ()
def PySem.W.Fast.tw5524901180547426826 : Unit := ()
def PySem.W.Fast.tw11922027054896245836 : Unit := ()
def PySem.W.Fast.tw9482448702344168432 : Unit := ()
def PySem.W.Fast.tw18159042812114570220 : Unit := ()
def PySem.W.Fast.tw14257269857436384890 : Unit := ()
def PySem.W.Fast.tw4766033136718315347 : Unit := ()
def PySem.W.Fast.tw336614261440520993 : Unit := ()
def PySem.W.Fast.tw5675498060850522408 : Unit := ()
def PySem.W.Fast.tw7186139066680955504 : Unit := ()
def PySem.W.Fast.tw8782300822804935886 : Unit := ()
def PySem.W.Fast.tw8752784766225760193 : Unit := ()
def PySem.W.Fast.tw3716815470305088430 : Unit := ()
def PySem.W.Fast.tw10579395932089489522 : Unit := ()
def PySem.W.Fast.tw9481674296698377917 : Unit := ()
def PySem.W.Fast.tw10301912889538791084 : Unit := ()
def PySem.W.Fast.tw3805683245453481613 : Unit := ()
def PySem.W.Fast.tw13265192281989178231 : Unit := ()
def PySem.W.Fast.tw9577961563465850271 : Unit := ()
def PySem.W.Fast.tw8676734233096908948 : Unit := ()
def PySem.W.Fast.tw413696526616491459 : Unit := ()
def PySem.W.Fast.tw17573599589523301331 : Unit := ()
def PySem.W.Fast.tw4335710409217399029 : Unit := ()
def PySem.W.Fast.tw187119338500458145 : Unit := ()
def PySem.W.Fast.tw1026191502585562104 : Unit := ()
def PySem.W.Fast.tw10189230939855009129 : Unit := ()
def PySem.W.Fast.tw2769598258785262404 : Unit := ()
def PySem.W.Fast.tw16690164676615804832 : Unit := ()
def PySem.W.Fast.tw2292979047674305425 : Unit := ()
def PySem.W.Fast.tw11094907234310482420 : Unit := ()
def PySem.W.Fast.tw13790985273301300438 : Unit := ()
def PySem.W.Fast.tw2656152330957963094 : Unit := ()
def PySem.W.Fast.tw15399824609788460607 : Unit := ()
def PySem.W.Fast.tw3197153552201357351 : Unit := ()
def PySem.W.Fast.tw13292338354636488021 : Unit := ()
def PySem.W.Fast.tw897008862647294889 : Unit := ()
def PySem.W.Fast.tw8982192081912862137 : Unit := ()
def PySem.W.Fast.tw16669211441311485659 : Unit := ()
def PySem.W.Fast.tw8273254741202507870 : Unit := ()
def PySem.W.Fast.tw5572886248820689654 : Unit := ()
def PySem.W.Fast.tw668042118765718803 : Unit := ()
def PySem.W.Fast.tw15052853355541115779 : Unit := ()
def PySem.W.Fast.tw8714825451180530905 : Unit := ()
def PySem.W.Fast.tw2555064665662695634 : Unit := ()
def PySem.W.Fast.tw6836174976772584324 : Unit := ()
def PySem.W.Fast.tw10821245323169818692 : Unit := ()
def PySem.W.Fast.tw1911643719878413609 : Unit := ()
def PySem.W.Fast.tw9585583421173729339 : Unit := ()
def PySem.W.Fast.tw8528923447006224487 : Unit := ()
def PySem.W.Fast.tw4131288662803892653 : Unit := ()
def PySem.W.Fast.tw2904870852139792596 : Unit := ()
def PySem.W.Fast.tw984480014850635225 : Unit := ()
def PySem.W.Fast.tw11571243962814863785 : Unit := ()
def PySem.W.Fast.tw10308052254759222244 : Unit := ()
def PySem.W.Fast.tw7285126839761148924 : Unit := ()
def PySem.W.Fast.tw5412046631146789386 : Unit := ()
def PySem.W.Fast.tw11360104380102687131 : Unit := ()
def PySem.W.Fast.tw1082023182471468499 : Unit := ()
def PySem.W.Fast.tw8992594123350906616 : Unit := ()
def PySem.W.Fast.tw9216467871339399221 : Unit := ()
def PySem.W.Fast.tw15302547029931677094 : Unit := ()
def PySem.W.Fast.tw11284496592358627493 : Unit := ()
def PySem.W.Fast.tw10419862798610423502 : Unit := ()
def PySem.W.Fast.tw4230489791868901807 : Unit := ()
def PySem.W.Fast.tw10172545871572193184 : Unit := ()
def PySem.W.Fast.tw1387461412582111978 : Unit := ()
def PySem.W.Fast.tw17896560832792511705 : Unit := ()
def PySem.W.Fast.tw5027027898300766612 : Unit := ()
def PySem.W.Fast.tw11537925312924461826 : Unit := ()
def PySem.W.Fast.tw5557824703981077824 : Unit := ()
def PySem.W.Fast.tw17413719899680548793 : Unit := ()
def PySem.W.Fast.tw10239445367961670228 : Unit := ()
def PySem.W.Fast.tw1927318632328549011 : Unit := ()
def PySem.W.Fast.tw836845718345917264 : Unit := ()
def PySem.W.Fast.tw2099149030525783772 : Unit := ()
def PySem.W.Fast.tw5058394666325061495 : Unit := ()
def PySem.W.Fast.tw1263266982392474065 : Unit := ()
def PySem.W.Fast.tw9965928731459149169 : Unit := ()
def PySem.W.Fast.tw6326809859612082350 : Unit := ()
def PySem.W.Fast.tw14314750117974587377 : Unit := ()
def PySem.W.Fast.tw12972979554784890357 : Unit := ()
def PySem.W.Fast.tw5443174729921946789 : Unit := ()
def PySem.W.Fast.tw11299131830228664164 : Unit := ()
def PySem.W.Fast.tw16742590214614047296 : Unit := ()
def PySem.W.Fast.tw17462515187549121039 : Unit := ()
def PySem.W.Fast.tw10627507126681283252 : Unit := ()
def PySem.W.Fast.tw1056394349312357591 : Unit := ()
def PySem.W.Fast.tw8970671359177388453 : Unit := ()
def PySem.W.Fast.tw14602630060850403628 : Unit := ()
def PySem.W.Fast.tw10291231386391608204 : Unit := ()
def PySem.W.Fast.tw15412384236182333485 : Unit := ()
def PySem.W.Fast.tw3505007578066588764 : Unit := ()
def PySem.W.Fast.tw14077324153665319500 : Unit := ()
def PySem.W.Fast.tw10298977494850877297 : Unit := ()
def PySem.W.Fast.tw10650060236669426922 : Unit := ()
def PySem.W.Fast.tw6346483953420800057 : Unit := ()
def PySem.W.Fast.tw18057800796963275507 : Unit := ()
def PySem.W.Fast.tw13615706048400324202 : Unit := ()
def PySem.W.Fast.tw9420184139365712659 : Unit := ()
def PySem.W.Fast.tw2980062800520430300 : Unit := ()
def PySem.W.Fast.tw12547486760021837380 : Unit := ()
def PySem.W.Fast.tw6817603022750059826 : Unit := ()
def PySem.W.Fast.tw13556694483618021564 : Unit := ()
def PySem.W.Fast.tw17524490966126717112 : Unit := ()
def PySem.W.Fast.tw9878444994292845134 : Unit := ()
def PySem.W.Fast.tw6441605760775289479 : Unit := ()
def PySem.W.Fast.tw3835109727358987808 : Unit := ()
def PySem.W.Fast.tw17818065762497670350 : Unit := ()
def PySem.W.Fast.tw878476532131423077 : Unit := ()
def PySem.W.Fast.tw12517130834394963197 : Unit := ()
def PySem.W.Fast.tw4624927505636543327 : Unit := ()
def PySem.W.Fast.tw9277629278173291882 : Unit := ()
def PySem.W.Fast.tw14778109917065907957 : Unit := ()
def PySem.W.Fast.tw18152175247580193605 : Unit := ()
def PySem.W.Fast.tw9172888381479683040 : Unit := ()
def PySem.W.Fast.tw16938318265123729854 : Unit := ()
def PySem.W.Fast.tw12260490204535792662 : Unit := ()
def PySem.W.Fast.tw1375905495531272069 : Unit := ()
def PySem.W.Fast.tw5197134070497072019 : Unit := ()
def PySem.W.Fast.tw17888791389835155218 : Unit := ()
def PySem.W.Fast.tw9785373642616400204 : Unit := ()
def PySem.W.Fast.tw16983697645174165274 : Unit := ()
def PySem.W.Fast.tw4906970382766299358 : Unit := ()
def PySem.W.Fast.tw501086962717471181 : Unit := ()
def PySem.W.Fast.tw13368026160436440069 : Unit := ()
def PySem.W.Fast.tw14562278146281346553 : Unit := ()
def PySem.W.Fast.tw3563218742903910057 : Unit := ()
def PySem.W.Fast.tw5673581049275196819 : Unit := ()
def PySem.W.Fast.tw17906227741547120099 : Unit := ()
def PySem.W.Fast.tw3832338922392405011 : Unit := ()
def PySem.W.Fast.tw3367027694292626486 : Unit := ()
def PySem.W.Fast.tw18245444079840476349 : Unit := ()
def PySem.W.Fast.tw3868321982434557684 : Unit := ()
def PySem.W.Fast.tw16766467275489261366 : Unit := ()
def PySem.W.Fast.tw18090346532370758735 : Unit := ()
def PySem.W.Fast.tw8696026328717091420 : Unit := ()
def PySem.W.Fast.tw2740458170349333771 : Unit := ()
def PySem.W.Fast.tw13755254744386844124 : Unit := ()
def PySem.W.Fast.tw417793640196912728 : Unit := ()
def PySem.W.Fast.tw13547974599931625448 : Unit := ()
def PySem.W.Fast.tw12028231137337718382 : Unit := ()
def PySem.W.Fast.tw5666378558249837234 : Unit := ()
def PySem.W.Fast.tw5106200405596632190 : Unit := ()
def PySem.W.Fast.tw14736158462015466229 : Unit := ()
def PySem.W.Fast.tw12707566371467844880 : Unit := ()
def PySem.W.Fast.tw14272619797189046227 : Unit := ()
def PySem.W.Fast.tw12865331648410073659 : Unit := ()
def PySem.W.Fast.tw1100974191995373435 : Unit := ()
def PySem.W.Fast.tw17930749476027967124 : Unit := ()
def PySem.W.Fast.tw18051382674922271184 : Unit := ()
def PySem.W.Fast.tw9050840556333193979 : Unit := ()
def PySem.W.Fast.tw2709774271563704985 : Unit := ()
def PySem.W.Fast.tw16696440636042886179 : Unit := ()
def PySem.W.Fast.tw645921979439212858 : Unit := ()
def PySem.W.Fast.tw7925047402162884763 : Unit := ()
open PySem PySem.W PyProof.Rows
set_option maxRecDepth 100000 in
set_option maxHeartbeats 0 in
theorem PySem.Challenge.cw_stonewalker_k37_no_stone_there_holds : PySem.Challenge.rw_stonewalker_k37_no_stone_there.Holds := by
 w_on;o_law;k_head;(case hw=>w_witness2)
 k_fill
 refine W.walk (l:=PySem.Challenge.rw_stonewalker_k37_no_stone_there) rfl rfl (fun w h Y=>PySem.W.kIn_of Y) ?F
 case F=>
  intro w mg fa h KX G hmg
  refine W.all_mk hmg ?T
  constructor
  iterate 15 (refine PySem.W.mg_none_of KX G ?_;k_is)
  (refine' L3.exc_mk KX G ?x0_a ?x0_q;(case x0_a=>k_is);(case x0_q=>k_exc))
  (refine' L3.sub1 (L3.exsub_mk KX G ?x1_a ?x1_b ?x1_q);(case x1_a=>k_is);(case x1_b=>k_is);(case x1_q=>kts_exm))
  (refine' L3.rel1 ⟨?x2_D,?x2_vs,?x2_a,⟨?x2_k1,?x2_k2,?x2_k3,?x2_k4,?x2_k5,Option.isSome_iff_exists.mpr ((Option.bind_eq_some_iff.mp ?x2_k5).imp fun _ h=>h.1)⟩,.cons (.inl (PySem.W.mg_of KX G ?z2_BadRow)) (.cons (.inl (PySem.W.mg_of KX G ?z2_Clash)) (.cons (.inl (PySem.W.mg_of KX G ?z2_NoDoor)) (.cons (.inl (PySem.W.mg_of KX G ?z2_NoMark)) (.cons (.inl (PySem.W.mg_of KX G ?z2_NotWhole)) (.cons (.inl (PySem.W.mg_of KX G ?z2_NoWeb)) (.cons (.inl (PySem.W.mg_of KX G ?z2_TooMany)) (.nil))))))),?x2_q⟩;(case x2_a=>unfold L3.CN;k_is);(case z2_BadRow=>k_is);(case z2_Clash=>k_is);(case z2_NoDoor=>k_is);(case z2_NoMark=>k_is);(case z2_NotWhole=>k_is);(case z2_NoWeb=>k_is);(case z2_TooMany=>k_is);(case x2_k1=>k_is);(case x2_k2=>k_is);(case x2_k3=>k_is);(case x2_k4=>k_is);(case x2_k5=>k_is);(case x2_q=>kit_is))
  (refine' L3.clsv_own KX G ?x3_b;(case x3_b=>k_is))
  (refine' L3.clsv_own KX G ?x4_b;(case x4_b=>k_is))
  (refine' L3.clsv_own KX G ?x5_b;(case x5_b=>k_is))
  (refine' L3.clsv_own KX G ?x6_b;(case x6_b=>k_is))
  (refine' L3.clsv_own KX G ?x7_b;(case x7_b=>k_is))
  (refine' L3.clsv_own KX G ?x8_b;(case x8_b=>k_is))
  (refine' L3.clsv_own KX G ?x9_b;(case x9_b=>k_is))
  (refine' L3.rel1 ⟨?x10_D,?x10_vs,?x10_a,⟨?x10_k1,?x10_k2,?x10_k3,?x10_k4,?x10_k5,Option.isSome_iff_exists.mpr ((Option.bind_eq_some_iff.mp ?x10_k5).imp fun _ h=>h.1)⟩,.cons (.inl (PySem.W.mg_of KX G ?z10_NoStone)) (.nil),?x10_q⟩;(case x10_a=>unfold L3.CN;k_is);(case z10_NoStone=>k_is);(case x10_k1=>k_is);(case x10_k2=>k_is);(case x10_k3=>k_is);(case x10_k4=>k_is);(case x10_k5=>k_is);(case x10_q=>kit_is))
  (refine' L3.clsv_own KX G ?x11_b;(case x11_b=>k_is))
  (refine' L3.rel1 ⟨?x12_D,?x12_vs,?x12_a,⟨?x12_k1,?x12_k2,?x12_k3,?x12_k4,?x12_k5,Option.isSome_iff_exists.mpr ((Option.bind_eq_some_iff.mp ?x12_k5).imp fun _ h=>h.1)⟩,.cons (.inr ⟨PySem.W.mg_none_of KX G ?z12_ValueError,rfl⟩) (.nil),?x12_q⟩;(case x12_a=>unfold L3.CN;k_is);(case z12_ValueError=>k_is);(case x12_k1=>k_is);(case x12_k2=>k_is);(case x12_k3=>k_is);(case x12_k4=>k_is);(case x12_k5=>k_is);(case x12_q=>kit_is))
  (refine' L3.clsv_blt KX G ?x13_b rfl;(case x13_b=>k_is))
  refine' ⟨?zC0,?zn0,⟨?zp0,?zq0,?zr0,?zs0⟩,?zm0,?zt0_came,?zt0_held,?zt0_lying,?zt0_room,?zt0_walked,?zt0_web,?zf0_Walker_init,?zf0_Walker_here,?zf0_Walker_go,?zf0_Walker_lay,?zf0_Walker_take,?zf0_Walker_in_hand,?zf0_Walker_steps⟩
  (case zn0=>unfold L3.CN;k_is)
  (case zp0=>k_is);(case zq0=>k_is);(case zr0=>k_is);(case zs0=>k_is);(case zm0=>(refine PySem.W.mg_of KX G ?_;k_is))
  (case zt0_came=>unfold L2.NoAttr;k_is)
  (case zt0_held=>unfold L2.NoAttr;k_is)
  (case zt0_lying=>unfold L2.NoAttr;k_is)
  (case zt0_room=>unfold L2.NoAttr;k_is)
  (case zt0_walked=>unfold L2.NoAttr;k_is)
  (case zt0_web=>unfold L2.NoAttr;k_is)
  (case zf0_Walker_init=>(refine' W.mk_at ?a_Walker_init ?i_Walker_init ?m_Walker_init ?x_Walker_init ?l_Walker_init ?c_Walker_init ?k_Walker_init;(case a_Walker_init=>k_is);(case i_Walker_init=>k_is);(case m_Walker_init=>k_is);(case x_Walker_init=>k_is);(case l_Walker_init=>k_is);(case c_Walker_init=>k_is);(case k_Walker_init=>k_is)))
  (case zf0_Walker_here=>(refine' W.me_at ?a_Walker_here ?i_Walker_here ?l_Walker_here ?c_Walker_here ?k_Walker_here;(case a_Walker_here=>k_is);(case i_Walker_here=>k_is);(case l_Walker_here=>k_is);(case c_Walker_here=>k_is);(case k_Walker_here=>k_is)))
  (case zf0_Walker_go=>(refine' W.me_at ?a_Walker_go ?i_Walker_go ?l_Walker_go ?c_Walker_go ?k_Walker_go;(case a_Walker_go=>k_is);(case i_Walker_go=>k_is);(case l_Walker_go=>k_is);(case c_Walker_go=>k_is);(case k_Walker_go=>k_is)))
  (case zf0_Walker_lay=>(refine' W.me_at ?a_Walker_lay ?i_Walker_lay ?l_Walker_lay ?c_Walker_lay ?k_Walker_lay;(case a_Walker_lay=>k_is);(case i_Walker_lay=>k_is);(case l_Walker_lay=>k_is);(case c_Walker_lay=>k_is);(case k_Walker_lay=>k_is)))
  (case zf0_Walker_take=>(refine' W.me_at ?a_Walker_take ?i_Walker_take ?l_Walker_take ?c_Walker_take ?k_Walker_take;(case a_Walker_take=>k_is);(case i_Walker_take=>k_is);(case l_Walker_take=>k_is);(case c_Walker_take=>k_is);(case k_Walker_take=>k_is)))
  (case zf0_Walker_in_hand=>(refine' W.me_at ?a_Walker_in_hand ?i_Walker_in_hand ?l_Walker_in_hand ?c_Walker_in_hand ?k_Walker_in_hand;(case a_Walker_in_hand=>k_is);(case i_Walker_in_hand=>k_is);(case l_Walker_in_hand=>k_is);(case c_Walker_in_hand=>k_is);(case k_Walker_in_hand=>k_is)))
  (case zf0_Walker_steps=>(refine' W.me_at ?a_Walker_steps ?i_Walker_steps ?l_Walker_steps ?c_Walker_steps ?k_Walker_steps;(case a_Walker_steps=>k_is);(case i_Walker_steps=>k_is);(case l_Walker_steps=>k_is);(case c_Walker_steps=>k_is);(case k_Walker_steps=>k_is)))
  iterate 23 (refine' W.fn_at KX G ?a ?l ?c ?k;(case a=>k_is);(case l=>k_is);(case c=>k_is);(case k=>k_is))
