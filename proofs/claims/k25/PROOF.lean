
import PyProof.Rows.All
import Wide.All
import OpenK.AllK
import Wide.FinOn
import Lean
import PyProof.EqAt
import PyProof.EqKinds
import PyProof.TupleCall
import PySem.Challenge.RW_stonewalker_k25_no_spreading
local macro_rules
 | `(tactic| omega) => `(tactic| lia)
set_option Elab.async false
set_option linter.all false
set_option maxRecDepth 100000
noncomputable section
namespace L2
open PySem PySem.Spec PyProof.Rows
abbrev Key:=Sum Int Str
def jZh:Key->Value->Bool
 | .inl k,v=>Value.isInt k v
 | .inr x,v=>Value.isStrOf x v
def keyH (w:World):Key->Int
 | .inl k=>hashInt k
 | .inr x=>hashStr w x
theorem jJt:∀ {k:Key} {v:Value},jZh k v=true->(∃i t,k=Sum.inl i/\v=Value.int i t)\/(∃x t,k=Sum.inr x/\v=Value.str x t)
 | .inl i,v,h=>by
  obtain⟨t,e⟩:=Value.isInt_shape (k:=i) (v:=v) h
  exact .inl ⟨i,t,rfl,e⟩
 | .inr x,v,h=>by
  obtain⟨t,e⟩:=Value.isStrOf_shape (x:=x) (v:=v) h
  exact .inr ⟨x,t,rfl,e⟩
theorem kUx (i:Int) (t:Tok):jZh (.inl i) (.int i t)=true:=by simp[jZh,Value.isInt]
theorem kUw (x:Str) (t:Tok):jZh (.inr x) (.str x t)=true:=by simp[jZh,Value.isStrOf]
theorem key_ll (a b:Int):decide ((Sum.inl a:Key)=Sum.inl b)=(a == b):=by
 by_cases e:a=b
 ·subst e;simp
 ·have h:¬ (Sum.inl a:Key)=Sum.inl b:=fun q=>e (Sum.inl.inj q)
  rw[decide_eq_false h]
  exact (beq_eq_false_iff_ne.mpr e).symm
theorem key_rr (a b:Str):decide ((Sum.inr a:Key)=Sum.inr b)=decide (a=b):=by
 by_cases e:a=b
 ·subst e;simp
 ·have h:¬ (Sum.inr a:Key)=Sum.inr b:=fun q=>e (Sum.inr.inj q)
  rw[decide_eq_false h,decide_eq_false e]
theorem key_lr (a:Int) (b:Str):decide ((Sum.inl a:Key)=Sum.inr b)=false:=decide_eq_false (fun q=>nomatch q)
theorem key_rl (a:Str) (b:Int):decide ((Sum.inr a:Key)=Sum.inl b)=false:=decide_eq_false (fun q=>nomatch q)
noncomputable def jJ9 (prog:Program) (w:World):PySem.KeyKind prog w Key where
 is:=jZh
 hash:=keyH w
 inj:=fun v a b ha hb=>by
  rcases jJt ha with ⟨i,t,rfl,rfl⟩ | ⟨x,t,rfl,rfl⟩
  ·rcases jJt hb with ⟨j,u,rfl,e⟩ | ⟨y,u,rfl,e⟩
   ·injection e with e1 _;rw[e1]
   ·exact nomatch e
  ·rcases jJt hb with ⟨j,u,rfl,e⟩ | ⟨y,u,rfl,e⟩
   ·exact nomatch e
   ·injection e with e1 _;rw[e1]
 byValue:=fun k v h=>by
  rcases jJt h with ⟨i,t,rfl,rfl⟩ | ⟨x,t,rfl,rfl⟩<;>rfl
 pyHash:=fun hv h=>by
  rcases jJt hv with ⟨i,t,rfl,rfl⟩ | ⟨x,t,rfl,rfl⟩
  ·exact wpAny_pyHash_int h
  ·exact wpAny_pyHash_str h
 eqBool:=fun hu hv h=>by
  rcases jJt hu with ⟨i,t,rfl,rfl⟩ | ⟨x,t,rfl,rfl⟩
  ·rcases jJt hv with ⟨j,u,rfl,rfl⟩ | ⟨y,u,rfl,rfl⟩
   ·rw[key_ll] at h;exact wpAny_eqBool_int h
   ·rw[key_lr] at h;exact SeqAt.EqAt.int_str i t y u _ _ _ _ h
  ·rcases jJt hv with ⟨j,u,rfl,rfl⟩ | ⟨y,u,rfl,rfl⟩
   ·rw[key_rl] at h;exact SeqAt.EqAt.str_int x t j u _ _ _ _ h
   ·rw[key_rr] at h;exact wpAny_eqBool_str h
 «strs» :=fun k x t v h=>by
  rcases jJt h with ⟨i,u,rfl,e⟩ | ⟨y,u,rfl,e⟩
  ·exact nomatch e
  ·injection e with e1 _
   subst e1
   cases v<;>rfl
theorem kJn (prog:Program) (w:World) (i:Int) (t:Tok):(jJ9 prog w).is (.inl i) (.int i t)=true:=kUx i t
theorem kJm (prog:Program) (w:World) (x:Str) (t:Tok):(jJ9 prog w).is (.inr x) (.str x t)=true:=kUw x t
end L2
set_option synthInstance.maxSize 1000
namespace L2
open PySem PySem.Spec PyProof.Rows
structure KeyV (prog:Program) (w:World) (K:Type) [DecidableEq K] (c:Nat) where
 is:Heap->K->Value->Prop
 hash:K->Int
 draws:K->Nat
 inj:∀ {h:Heap} {v:Value} {x y:K},is h x v->is h y v->x=y
 keeps:∀ {h h':Heap} {k:K} {v:Value} {d:Addr} {o:Obj} {es:Array DictEntry} {ep:Nat},is h k v->h.get? d=some o->o.data= .dict es ep->Heap.SameBut d h h'->is h' k v
 hashed:∀ {A:Around} {E:Value->Shared->Prop} {s:Shared} {k:K} {v:Value} {Q:Int->Shared->Prop},A.units+c<cLine->is s.heap k v->Q (hash k) {s with toks:=s.toks+draws k}->wpAny (model prog w) A (PySem.pyHash v) Q E s
 eqAt:∀ {A:Around} {s:Shared} {x y:K} {u v:Value},A.units+c<cLine->is s.heap x u->is s.heap y v->SeqAt.EqAt A s u v (decide (x=y))
 quiet:∀ {A:Around} {E:Value->Shared->Prop} {s:Shared} {k:K} {v:Value} {Q:Bool->Shared->Prop} (n:Nat),c<=n->is s.heap k v->Q true s->wpAny (model prog w) A (eqIsQuiet n v) Q E s
noncomputable def kKu (prog:Program) (w:World):KeyV prog w Key 0 where
 is:=fun _ k v=>jZh k v=true
 hash:=keyH w
 draws:=fun _=>1
 inj:=fun hx hy=>(jJ9 prog w).inj _ _ _ hx hy
 keeps:=fun x _ _ _=>x
 hashed:=fun _ hv h=>(jJ9 prog w).pyHash hv h
 eqAt:=fun _ hx hy prog' w' _ _ h=>(jJ9 prog' w').eqBool hx hy h
 quiet:=fun n _ hv h=>by rw[eqIsQuiet_byValue n ((jJ9 prog w).byValue _ _ hv)];exact wpAny_pure h
section
variable {prog:Program} {w:World} {K:Type} [DecidableEq K] {c:Nat}
inductive ItemsV (V:KeyV prog w K c) (h:Heap):List K->List Value->Prop
 | nil:ItemsV V h [] []
 | cons {k:K} {v:Value} {ks:List K} {vs:List Value}:V.is h k v->ItemsV V h ks vs->ItemsV V h (k::ks) (v::vs)
theorem ItemsV.inj {V:KeyV prog w K c} {h:Heap} {x:List K} {vs:List Value} (hx:ItemsV V h x vs):∀ {y:List K},ItemsV V h y vs->x=y:=by
 induction hx with
 | nil=>intro y hy;cases hy;rfl
 | cons a _ ih=>intro y hy;cases hy with | cons b t=>rw[V.inj a b,ih t]
theorem ItemsV.length {V:KeyV prog w K c} {h:Heap} {x:List K} {vs:List Value} (hx:ItemsV V h x vs):x.length=vs.length:=by
 induction hx with
 | nil=>rfl
 | cons _ _ ih=>simp[ih]
theorem ItemsV.get {V:KeyV prog w K c} {h:Heap} {x:List K} {vs:List Value} (hx:ItemsV V h x vs):∀ {j:Nat} {v:Value},vs[j]? =some v->∃k,x[j]? =some k/\V.is h k v:=by
 induction hx with
 | nil=>intro j v e;simp at e
 | cons a _ ih=>
  intro j v e
  cases j with
  | zero=>simp at e;subst e;exact⟨_,rfl,a⟩
  | succ j=>obtain⟨k,h1,h2⟩:=ih (j:=j) (v:=v) (by simpa using e);exact⟨k,by simpa using h1,h2⟩
theorem ItemsV.keeps {V:KeyV prog w K c} {h h':Heap} {x:List K} {vs:List Value} {d:Addr} {o:Obj} {es:Array DictEntry} {ep:Nat} (hx:ItemsV V h x vs) (ho:h.get? d=some o) (hd:o.data= .dict es ep) (hs:Heap.SameBut d h h'):ItemsV V h' x vs:=by
 induction hx with
 | nil=>exact .nil
 | cons a _ ih=>exact .cons (V.keeps a ho hd hs) ih
noncomputable def kVw (V:KeyV prog w K c) (h:Heap) (ks:List K) (v:Value):Prop:=∃(a:Addr) (o:Obj) (items:Array Value) (n:Nat),v= .ref a/\h.get? a=some o/\o.cls= .type "tuple"/\o.data= .seq items n/\ItemsV V h ks items.toList
theorem all_eq:∀(x y:List K),((List.range (min x.length y.length)).all (fun j=>decide (x[j]? =y[j]?))&&x.length == y.length)=decide (x=y):=by
 intro x y
 by_cases e:x=y
 ·subst e;simp
 ·rw[decide_eq_false e,Bool.and_eq_false_iff]
  by_cases l:x.length=y.length
  ·left
   rw[List.all_eq_false]
   have:∃j:Nat,x[j]? ≠y[j]? :=by
    apply Classical.byContradiction
    intro q
    exact e (List.ext_getElem? fun j=>Classical.byContradiction fun z=>q ⟨j,z⟩)
   obtain⟨j,hj⟩:=this
   refine⟨j,List.mem_range.mpr ?_,by simpa using hj⟩
   rcases Nat.lt_or_ge j (min x.length y.length) with z | z
   ·exact z
   ·exact absurd (by rw[List.getElem?_eq_none (by omega),List.getElem?_eq_none (by omega)]) hj
  ·right;simpa using l
noncomputable def jUe (V:KeyV prog w K c):KeyV prog w (List K) (c+2) where
 is:=kVw V
 hash:=fun ks=>reduceHash (Builtin.Tuple.tupleHashOf (ks.map V.hash))
 draws:=fun ks=>(ks.map V.draws).sum+1
 inj:=by
  rintro h v x y ⟨a,o,items,n,rfl,ho,_,hd,hi⟩ ⟨a',o',items',n',e,ho',_,hd',hi'⟩
  cases e
  rw[ho] at ho';cases ho'
  rw[hd] at hd';cases hd'
  exact hi.inj hi'
 keeps:=by
  rintro h h' k v d o es ep ⟨a,o',items,n,rfl,ho',hc,hd',hi⟩ ho hd hs
  have ne:a≠d:=by
   rintro rfl
   rw[ho] at ho';cases ho'
   rw[hd] at hd';cases hd'
  exact⟨a,o',items,n,rfl,(hs.2 a ne).trans ho',hc,hd',hi.keeps ho hd hs⟩
 hashed:=by
  rintro A E s ks v Q hu ⟨a,o,items,n,rfl,ho,hc,hd,hi⟩ h
  refine PySem.W.pyHash_slot (T:="tuple") ⟨o,ho,hc⟩ F.slot_tuple_hash F.entry_tuple_hash (F.args_tuple_hash_1 _) (beq_builtin_none _) (.inr (by omega)) ?_
  refine (show wpAny _ _ (Builtin.Tuple.tupleItemsOf (.ref a) >>= _) _ _ s from wpAny_bind (wpAny_tupleItemsOf ho hd (wpAny_bind ?_)))
  rw[<-Array.forIn_toList]
  refine wpAny_forIn_list _ (fun rest (b:Array Int) z=>∃done left,ks=done++left/\ItemsV V s.heap left rest/\b.toList=done.map V.hash/\z={s with toks:=s.toks+(done.map V.draws).sum}) _ ?_ ?_ _ _ ⟨[],ks,rfl,hi,rfl,rfl⟩
  ·rintro x rest b z ⟨done,left,rfl,hl,hb,rfl⟩
   cases hl with
   | @cons k _ ks' _ h1 hl'=>
    refine wpAny_bind (V.hashed (by rw[Around.in1_units];omega) h1 ?_)
    first
     | exact wpAny_pure ⟨done++[k],ks',by simp,hl',by simp[hb],(by simp[Nat.add_assoc])⟩
     | exact wpAny_bind (wpAny_pure (wpAny_pure ⟨done++[k],ks',by simp,hl',by simp[hb],(by simp[Nat.add_assoc])⟩))
  ·rintro b z ⟨done,left,rfl,hl,hb,rfl⟩
   cases hl
   rw[List.append_nil] at h
   refine (show wpAny _ _ (retInt (Builtin.Tuple.tupleHashOf b.toList)) _ _ _ from ?_)
   rw[hb]
   exact wpAny_bind (wpAny_mkInt (wpAny_pure ⟨_,_,rfl,by simpa[Nat.add_assoc] using h⟩))
 eqAt:=by
  rintro A s x y u v hu ⟨a,o,items,n,rfl,ho,hc,hd,hi⟩ ⟨a',o',items',n',rfl,ho',hc',hd',hi'⟩
  by_cases e:a=a'
  ·subst e
   rw[ho] at ho';cases ho'
   rw[hd] at hd';cases hd'
   rw[hi.inj hi',decide_eq_true rfl]
   exact SeqAt.EqAt.same _
  ·have R:=SeqAt.RcAt.tuples (A:=A) (s:=s) (l:=a) (b:=a') (e:=fun j=>decide (x[j]? =y[j]?)) ⟨o,ho,hc,n,hd⟩ ⟨o',ho',hc',n',hd'⟩ (by omega) (fun j j1 j2=> ?_)
   ·have l1:=hi.length
    have l2:=hi'.length
    rw[<-all_eq x y,l1,l2]
    have R':=SeqAt.EqAt.of_refs e R
    simpa using R'
   ·obtain⟨k,h1,h2⟩:=hi.get (j:=j) (v:=items[j]) (by simp[j1])
    obtain⟨k',h1',h2'⟩:=hi'.get (j:=j) (v:=items'[j]) (by simp[j2])
    have:=V.eqAt (A:=A.in1) (s:=s) (by rw[Around.in1_units];omega) h2 h2'
    rw[h1,h1']
    simpa using this
 quiet:=by
  rintro A E s ks v Q n hn ⟨a,o,items,m,rfl,ho,hc,hd,hi⟩ h
  obtain⟨n,rfl⟩:∃nn,n=nn+1:=⟨n-1,by omega⟩
  have hT:s.TypeIs (.ref a) "tuple":=⟨o,ho,hc⟩
  unfold eqIsQuiet;refine wpAny_bind (wpAny_specialOf hT F.slot_tuple_eq.lookup ?_)
  refine (show wpAny _ _ (isInstance (.ref a) (.type "tuple") >>= _) _ _ s from wpAny_bind (wpAny_isInstance hT isSubtype_tuple_tuple ?_))
  simp only[if_false,Bool.not_true,Bool.false_eq_true]
  refine wpAny_bind (wpAny_seqItems ho hd (wpAny_bind ?_))
  refine (show wpAny _ _ (forIn items _ _) _ _ s from ?_)
  rw[<-Array.forIn_toList]
  refine wpAny_forIn_list _ (fun rest r z=>r.1=none/\z=s/\∃left,ItemsV V s.heap left rest) _ ?_ ?_ _ _ ⟨rfl,rfl,ks,hi⟩
  ·rintro x rest r z ⟨hr,rfl,left,hl⟩
   cases hl with
   | cons h1 hl'=>
    refine wpAny_bind (V.quiet n (by omega) h1 ?_)
    simp only[if_false,Bool.not_true,Bool.false_eq_true]
    exact wpAny_pure ⟨rfl,rfl,_,hl'⟩
  ·rintro⟨r1,r2⟩ z ⟨hr,rfl,_⟩
   simp only at hr;subst hr
   exact wpAny_pure h
theorem qJv {α β:Type} [DecidableEq α] [DecidableEq β] (a b:α):decide ((Sum.inl a:α ⊕ β)=Sum.inl b)=decide (a=b):=by
 by_cases e:a=b
 ·simp[e]
 ·rw[decide_eq_false e,decide_eq_false fun z=>e (Sum.inl.inj z)]
theorem qJu {α β:Type} [DecidableEq α] [DecidableEq β] (a b:β):decide ((Sum.inr a:α ⊕ β)=Sum.inr b)=decide (a=b):=by
 by_cases e:a=b
 ·simp[e]
 ·rw[decide_eq_false e,decide_eq_false fun z=>e (Sum.inr.inj z)]
noncomputable def sumVK (V:KeyV prog w K c):KeyV prog w (Key ⊕ List K) (c+2) where
 is:=fun h k v=>match k with
  | .inl k=>jZh k v=true
  | .inr ks=>kVw V h ks v
 hash:=fun k=>match k with
  | .inl k=>keyH w k
  | .inr ks=>(jUe V).hash ks
 draws:=fun k=>match k with
  | .inl _=>1
  | .inr ks=>(jUe V).draws ks
 inj:=by
  rintro h v (x | x) (y | y) hx hy
  ·rw[(jJ9 prog w).inj _ _ _ hx hy]
  ·obtain⟨a,_,_,_,rfl,_⟩:=hy
   rcases jJt hx with ⟨i,t,_,e⟩ | ⟨i,t,_,e⟩<;>cases e
  ·obtain⟨a,_,_,_,rfl,_⟩:=hx
   rcases jJt hy with ⟨i,t,_,e⟩ | ⟨i,t,_,e⟩<;>cases e
  ·rw[(jUe V).inj hx hy]
 keeps:=by
  rintro h h' (k | k) v d o es ep hx ho hd hs
  ·exact hx
  ·exact (jUe V).keeps hx ho hd hs
 hashed:=by
  rintro A E s (k | k) v Q hu hx h
  ·exact (jJ9 prog w).pyHash hx h
  ·exact (jUe V).hashed hu hx h
 eqAt:=by
  rintro A s (x | x) (y | y) u v hu hx hy
  ·rw[qJv]
   exact (kKu prog w).eqAt (by omega) hx hy
  ·rw[decide_eq_false fun z=>nomatch z]
   obtain⟨a,o,items,n,rfl,ho,hc,hd,_⟩:=hy
   rcases jJt hx with ⟨i,t,_,rfl⟩ | ⟨i,t,_,rfl⟩
   ·exact SeqAt.EqAt.int_tuple i t ⟨o,ho,hc,n,hd⟩ (by omega)
   ·exact SeqAt.EqAt.str_tuple i t ⟨o,ho,hc,n,hd⟩ (by omega)
  ·rw[decide_eq_false fun z=>nomatch z]
   obtain⟨a,o,items,n,rfl,ho,hc,hd,_⟩:=hx
   rcases jJt hy with ⟨i,t,_,rfl⟩ | ⟨i,t,_,rfl⟩
   ·exact SeqAt.EqAt.tuple_int i t ⟨o,ho,hc,n,hd⟩ (by omega)
   ·exact SeqAt.EqAt.tuple_str i t ⟨o,ho,hc,n,hd⟩ (by omega)
  ·rw[qJu]
   exact (jUe V).eqAt hu hx hy
 quiet:=by
  rintro A E s (k | k) v Q n hn hx h
  ·exact (kKu prog w).quiet n (Nat.zero_le _) hx h
  ·exact (jUe V).quiet n hn hx h
end
abbrev K1:=Key ⊕ List Key
abbrev K2:=Key ⊕ List K1
abbrev TKey:=List K2
def vk1 (prog:Program) (w:World):KeyV prog w K1 2:=sumVK (kKu prog w)
def vk2 (prog:Program) (w:World):KeyV prog w K2 4:=sumVK (vk1 prog w)
noncomputable def jQ3 (prog:Program) (w:World):HeapKind prog w TKey where
 is:=fun h ks a=>(jUe (vk2 prog w)).is h ks (.ref a)
 hash:=(jUe (vk2 prog w)).hash
 draws:=(jUe (vk2 prog w)).draws
 room:=fun A=>A.units+6<cLine
 inj:=fun hx hy=>(jUe (vk2 prog w)).inj hx hy
 keeps:=fun x ho hd hs=>(jUe (vk2 prog w)).keeps x ho hd hs
 pyHash:=fun hu hk h=>(jUe (vk2 prog w)).hashed hu hk h
 eqBool:=fun hu hx hy h=>(jUe (vk2 prog w)).eqAt hu hx hy _ _ _ _ h
 quiet:=fun hk h=>(jUe (vk2 prog w)).quiet 8 (by decide) hk h
theorem jKg {prog:Program} {w:World} {A:Around} (hu:A.units+20<cLine):(jQ3 prog w).room A.in1:=by
 show A.in1.units+6<cLine
 rw[Around.in1_units];omega
inductive V where
 | non | bl (b:Bool) | int (i:Int) | str (x:Str) | byt (b:Array UInt8) | flt (b:UInt64) | ref (a:Addr) | ty (n:String)
 deriving DecidableEq
noncomputable def RelV:V->Value->Prop
 | .non,u=>u=Value.none
 | .bl b,u=>u=Value.bool b
 | .int i,u=>∃t,u=Value.int i t
 | .str x,u=>∃t,u=Value.str x t
 | .byt b,u=>∃t,u=Value.bytes b t
 | .flt b,u=>∃t,u=Value.float b t
 | .ref a,u=>u=Value.ref a
 | .ty n,u=>u=Value.type n
abbrev Vals:List V->List Value->Prop:=Paired RelV
theorem Vals.length {xs:List V} {us:List Value} (r:Vals xs us):xs.length=us.length:=Paired.length r
theorem Vals.get:∀ {xs:List V} {us:List Value} {i:Nat} {x:V},Vals xs us->xs[i]? =some x->∃u,us[i]? =some u/\RelV x u
 | _,_,_,_,.nil,e=>by simp at e
 | _,_,0,_,.cons r _,e=>by simp at e;subst e;exact⟨_,rfl,r⟩
 | _,_,i+1,x,.cons _ t,e=>by
  obtain⟨u,h1,h2⟩:=Vals.get (i:=i) (x:=x) t (by simpa using e)
  exact⟨u,by simpa using h1,h2⟩
theorem Vals.set {x:V} {u:Value} (r:RelV x u):∀ {xs:List V} {us:List Value} (i:Nat),Vals xs us->Vals (xs.set i x) (us.set i u)
 | _,_,_,.nil=> .nil
 | _,_,0,.cons _ t=> .cons r t
 | _,_,i+1,.cons q t=> .cons q (Vals.set r i t)
theorem Vals.append:∀ {xs ys:List V} {us ws:List Value},Vals xs us->Vals ys ws->Vals (xs++ys) (us++ws)
 | _,_,_,_,.nil,s=>s
 | _,_,_,_,.cons r t,s=> .cons r (Vals.append t s)
theorem Vals.take:∀ {xs:List V} {us:List Value} (n:Nat),Vals xs us->Vals (xs.take n) (us.take n)
 | _,_,0,_=> .nil
 | _,_,_+1,.nil=> .nil
 | _,_,n+1,.cons r t=> .cons r (Vals.take n t)
theorem Vals.drop:∀ {xs:List V} {us:List Value} (n:Nat),Vals xs us->Vals (xs.drop n) (us.drop n)
 | _,_,0,r=>r
 | _,_,_+1,.nil=> .nil
 | _,_,n+1,.cons _ t=>Vals.drop n t
def RelO:Option V->Option Value->Prop
 | some v,some u=>RelV v u
 | none,none=>True
 | _,_=>False
def KV {κ:Type}:List (κ×V)->List (κ×Value)->Prop:=Paired fun (p:κ×V) (q:κ×Value)=>p.1=q.1/\RelV p.2 q.2
def kV:Key->V
 | .inl i=> .int i
 | .inr x=> .str x
inductive HO where
  | lst (xs:List V)
  | tup (xs:List V)
  | dK (kvs:List (Key×V)) | dT (kvs:List (TKey×V))
  | set (S:Int->Bool) (n:Nat)
  | ins (C dx:Addr) (fs:List (Str×V))
  | own (x:Addr)
  | xd (fs:List (Str×V))
  | met (f x:Addr)
  | rng (lo hi:Int)
  | frz (o:Obj) (u:HO)
  | tbl (ps:Array Value)
  | ext (φ:Heap->Prop)
abbrev Hp:=Addr->Option HO
def upd (H:Hp) (a:Addr) (o:HO):Hp:=fun b=>if b=a then some o else H b
theorem jJ7 {H:Hp} {a:Addr} {o:HO}:upd H a o a=some o:=by unfold upd;rw[if_pos rfl]
theorem jJs {H:Hp} {a b:Addr} {o:HO} (h:b≠a):upd H a o b=H b:=by unfold upd;rw[if_neg h]
theorem ne_of {H:Hp} {a b:Addr} {o u:HO} (h:H a=some o) (h':H b=some u) (d:o≠u):a≠b:=by
 intro e;subst e;rw[h] at h';exact d (Option.some.inj h')
theorem jQg {H:Hp} {a b:Addr} {o:HO} (h:H a=some o) (h':H b=none):a≠b:=by
 intro e;subst e;rw[h] at h';cases h'
def Rk1 (H:Hp) (k:K1) (v:V):Prop:=match k with
 | .inl k=>v=kV k
 | .inr ks=>∃p vs,v= .ref p/\H p=some (.tup vs)/\Paired (fun k v=>v=kV k) ks vs
def Rk2 (H:Hp) (k:K2) (v:V):Prop:=match k with
 | .inl k=>v=kV k
 | .inr ks=>∃p vs,v= .ref p/\H p=some (.tup vs)/\Paired (Rk1 H) ks vs
def TKeyAt (H:Hp) (ks:TKey) (a:Addr):Prop:=∃vs,H a=some (.tup vs)/\Paired (Rk2 H) ks vs
theorem jUh {α β:Type} {F G:α->β->Prop} (f:∀a b,F a b->G a b):∀ {l:List α} {m:List β},Paired F l m->Paired G l m
 | _,_,.nil=> .nil
 | _,_,.cons r t=> .cons (f _ _ r) (jUh f t)
theorem Rk1.mono {H H':Hp} (ht:∀b ys,H b=some (.tup ys)->H' b=some (.tup ys)) (k:K1) (v:V) (r:Rk1 H k v):Rk1 H' k v:=by
 cases k with
 | inl k=>exact r
 | inr ks=>obtain⟨p,vs,e,h,t⟩:=r;exact⟨p,vs,e,ht _ _ h,t⟩
theorem Rk2.mono {H H':Hp} (ht:∀b ys,H b=some (.tup ys)->H' b=some (.tup ys)) (k:K2) (v:V) (r:Rk2 H k v):Rk2 H' k v:=by
 cases k with
 | inl k=>exact r
 | inr ks=>obtain⟨p,vs,e,h,t⟩:=r;exact⟨p,vs,e,ht _ _ h,jUh (Rk1.mono ht) t⟩
theorem TKeyAt.mono {H H':Hp} {ks:TKey} {a:Addr} (r:TKeyAt H ks a) (ht:∀b ys,H b=some (.tup ys)->H' b=some (.tup ys)):TKeyAt H' ks a:=by
 obtain⟨vs,h,t⟩:=r;exact⟨vs,ht _ _ h,jUh (Rk2.mono ht) t⟩
section
variable (P:Program) (w:World)
def TupD (h:Heap) (a:Addr) (items:Array Value):Prop:=∃o,h.get? a=some o/\o.cls= .type "tuple"/\∃n,o.data= .seq items n/\o.dict=none
theorem TupD.is {h:Heap} {a:Addr} {items:Array Value} (x:TupD h a items):IsTup h a items:=let ⟨o,e,c,n,d,_⟩:=x;⟨o,e,c,n,d⟩
theorem TupD.new (h:Heap) (items:Array Value):TupD (h.push {cls:= .type "tuple",data:= .seq items}) h.objs.size items:=⟨_,Heap.get?_push_size _ rfl,rfl,_,rfl,rfl⟩
noncomputable def ObjOk (H:Hp) (h:Heap) (a:Addr):HO->Prop
 | .lst xs=>xs.length<=sizeLine/\∃(its:List Value) (n:Nat),Vals xs its/\h.get? a=some {cls:= .type "list",data:= .seq its.toArray n}
 | .tup xs=>xs.length<=sizeLine/\∃its:List Value,Vals xs its/\TupD h a its.toArray
 | .dK kvs=>kvs.length<=sizeLine/\(a == sysModules)=false/\∃vs,KV kvs vs/\h.DictOf (jJ9 P w) a vs
 | .dT kvs=>kvs.length<=sizeLine/\(a == sysModules)=false/\∃xs:List (TKey×Addr×Value),
   Paired (fun (p:TKey×V) (q:TKey×Addr×Value)=>p.1=q.1/\TKeyAt H p.1 q.2.1/\RelV p.2 q.2.2) kvs xs/\
   ∃o es ep,h.get? a=some o/\o.ExactDict/\o.data= .dict es ep/\es.toList=xs.map (entryOfKey (jQ3 P w))/\(xs.map (·.1)).Nodup
 | .set S n=>h.SetOf (intKind P w) a S n
 | .ins C dx fs=>H dx=some (.own a)/\fs.length<=1000/\dx≠a/\h.get? a=some (PySem.W.instObj C dx)/\
   ∃mA,h.Ns1 dx mA/\(∀f,RelO (fs.lookup f) (mA f))/\PySem.Within mA (fs.map (·.1))
 | .own _=>∃o,h.get? a=some o
 | .xd fs=>∃mA,h.Ns1 a mA/\∀f,RelO (fs.lookup f) (mA f)
 | .rng lo hi=>∃t u v,h.get? a=some {cls:= .type "range",data:= .fields #[.int lo t,.int hi u,.int 1 v]}
 | .frz o u=>h.get? a=some o/\ObjOk H h a u
 | .tbl ps=>h.get? a=some {cls:= .none,data:= .fields ps}
 | .met f x=>h.get? a=some (PySem.W.methodObj (.ref f) (.ref x))
 | .ext φ=>φ h/\(∃o,h.get? a=some o)/\∀h1 h2:Heap,φ h1->(∀o,h1.get? a=some o->h2.get? a=some o)->φ h2
def HOk (H:Hp) (h:Heap):Prop:=∀a o,H a=some o->ObjOk P w H h a o
end
section
variable {P:Program} {w:World} {H H':Hp} {h h':Heap} {a:Addr} {o:HO}
theorem ObjOk.lt (x:ObjOk P w H h a o):a<h.objs.size:=by
 cases o with
 | lst xs=>obtain⟨_,_,_,_,e⟩:=x;exact Heap.lt_size e
 | tup xs=>obtain⟨_,_,_,p⟩:=x;exact p.is.lt
 | dK kvs=>obtain⟨_,_,_,_,o,_,_,e,_⟩:=x;exact Heap.lt_size e
 | dT kvs=>obtain⟨_,_,_,_,o,_,_,e,_⟩:=x;exact Heap.lt_size e
 | set S n=>obtain⟨o,_,_,_,e,_⟩:=x;exact Heap.lt_size e
 | ins C dx fs=>obtain⟨_,_,_,e,_⟩:=x;exact Heap.lt_size e
 | own y=>obtain⟨_,e⟩:=x;exact Heap.lt_size e
 | xd fs=>obtain⟨_,⟨_,_,_,e,_⟩,_⟩:=x;exact Heap.lt_size e
 | rng lo hi=>obtain⟨_,_,_,e⟩:=x;exact Heap.lt_size e
 | frz ob u=>obtain⟨e,_⟩:=x;exact Heap.lt_size e
 | tbl ps=>exact Heap.lt_size (show h.get? a=some _ from x)
 | met f y=>exact Heap.lt_size (show h.get? a=some _ from x)
 | ext φ=>obtain⟨_,⟨_,e⟩,_⟩:=x;exact Heap.lt_size e
theorem Paired.mapP {α β:Type} {F G:α->β->Prop}:∀ {l₁:List α} {l₂:List β},Paired F l₁ l₂->(∀a b,F a b->G a b)->Paired G l₁ l₂
 | _,_,.nil,_=> .nil
 | _,_,.cons r t,f=> .cons (f _ _ r) (Paired.mapP t f)
theorem ObjOk.stay (x:ObjOk P w H h a o) (k:∀b u,(b=a\/H b=some (.own a))->h.get? b=some u->h'.get? b=some u)
  (ho:∀b,H b=some (.own a)->H' b=some (.own a)) (ht:∀b xs,H b=some (.tup xs)->H' b=some (.tup xs)):ObjOk P w H' h' a o:=by
 induction o with
 | lst xs=>obtain⟨z,its,n,r,e⟩:=x;exact⟨z,its,n,r,k _ _ (.inl rfl) e⟩
 | tup xs=>obtain⟨z,its,r,ob,e,c⟩:=x;exact⟨z,its,r,ob,k _ _ (.inl rfl) e,c⟩
 | dK kvs=>obtain⟨z,y,vs,r,ob,es,ep,e,c⟩:=x;exact⟨z,y,vs,r,ob,es,ep,k _ _ (.inl rfl) e,c⟩
 | dT kvs=>
  obtain⟨z,y,xs,r,ob,es,ep,e,c⟩:=x
  exact⟨z,y,xs,Paired.mapP r fun p q z=>⟨z.1,z.2.1.mono ht,z.2.2⟩,ob,es,ep,k _ _ (.inl rfl) e,c⟩
 | set S n=>obtain⟨ob,es,ep,t,e,c⟩:=x;exact⟨ob,es,ep,t,k _ _ (.inl rfl) e,c⟩
 | ins C dx fs=>
  obtain⟨d,z,ne,e,mA,⟨od,es,ep,e2,c⟩,r⟩:=x
  exact⟨ho _ d,z,ne,k _ _ (.inl rfl) e,mA,⟨od,es,ep,k _ _ (.inr d) e2,c⟩,r⟩
 | own y=>obtain⟨ob,e⟩:=x;exact⟨ob,k _ _ (.inl rfl) e⟩
 | xd fs=>obtain⟨mA,⟨od,es,ep,e,c⟩,r⟩:=x;exact⟨mA,⟨od,es,ep,k _ _ (.inl rfl) e,c⟩,r⟩
 | rng lo hi=>obtain⟨t,u,v,e⟩:=x;exact⟨t,u,v,k _ _ (.inl rfl) e⟩
 | frz ob u ih=>obtain⟨e,q⟩:=x;exact⟨k _ _ (.inl rfl) e,ih q⟩
 | tbl ps=>
  have e:h.get? a=some {cls:= .none,data:= .fields ps}:=x
  show h'.get? a=some {cls:= .none,data:= .fields ps}
  exact k a _ (.inl rfl) e
 | met f y=>
  have e:h.get? a=some (PySem.W.methodObj (.ref f) (.ref y)):=x
  show h'.get? a=some (PySem.W.methodObj (.ref f) (.ref y))
  exact k a _ (.inl rfl) e
 | ext φ=>obtain⟨p,⟨o,e⟩,st⟩:=x;exact⟨st _ _ p fun o q=>k _ _ (.inl rfl) q,⟨o,k _ _ (.inl rfl) e⟩,st⟩
theorem HOk.lt (x:HOk P w H h) (e:H a=some o):a<h.objs.size:=(x a o e).lt
theorem HOk.fresh (x:HOk P w H h) (e:h.objs.size<=a):H a=none:=by
 cases q:H a with
 | none=>rfl
 | some u=>exact absurd (Nat.lt_of_lt_of_le (x.lt q) e) (Nat.lt_irrefl _)
theorem HOk.kept (x:HOk P w H h) (k:∀b u,h.get? b=some u->h'.get? b=some u):HOk P w H h':=fun a o e=>
 (x a o e).stay (fun b u _ q=>k b u q) (fun _ q=>q) fun _ _ q=>q
theorem HOk.laid (x:HOk P w H h) (k:∀b u,h.get? b=some u->h'.get? b=some u) (hp:h.objs.size<=a) (new:ObjOk P w (upd H a o) h' a o):HOk P w (upd H a o) h':=fun b u e=>by
 have hn:=x.fresh hp
 by_cases hb:b=a
 ·subst hb;rw[jJ7] at e;cases e;exact new
 ·rw[jJs hb] at e
  exact (x b u e).stay (fun c v _ q=>k c v q) (fun c q=>by rw[jJs (jQg q hn)];exact q) fun c xs q=>by rw[jJs (jQg q hn)];exact q
end
def Rd (H:Hp) (a:Addr) (u:HO):Prop:=H a=some u\/∃o,H a=some (.frz o u)
theorem Rd.ok {P:Program} {w:World} {H:Hp} {h:Heap} {a:Addr} {u:HO} (r:Rd H a u) (x:HOk P w H h):ObjOk P w H h a u:=by
 rcases r with r | ⟨o,r⟩
 ·exact x a u r
 ·obtain⟨_,q⟩:=x a _ r
  exact q
def Mut:Option HO->Prop
 | some (.lst _)=>True
 | some (.dK _)=>True
 | some (.dT _)=>True
 | some (.set _ _)=>True
 | some (.ins _ _ _)=>True
 | some (.ext _)=>True
 | _=>False
section
variable {P:Program} {w:World} {H:Hp} {h h':Heap} {x e:Addr} {o':HO}
theorem HOk.write (ok:HOk P w H h) (mu:Mut (H x)) (he:e=x\/H e=some (.own x)) (k:∀b u,b≠e->h.get? b=some u->h'.get? b=some u) (heo:∃u,h'.get? e=some u)
  (new:ObjOk P w (upd H x o') h' x o'):HOk P w (upd H x o') h':=fun b u q=>by
 have nown:∀c y,H c=some (.own y)->c≠x:=fun c y r z=>by subst z;rw[r] at mu;exact mu
 have ntup:∀c xs,H c=some (.tup xs)->c≠x:=fun c xs r z=>by subst z;rw[r] at mu;exact mu
 by_cases hb:b=x
 ·subst hb;rw[jJ7] at q;cases q;exact new
 ·rw[jJs hb] at q
  by_cases hbe:b=e
  ·have q':H b=some (.own x):=by
    rcases he with z | z
    ·exact absurd (hbe.trans z) hb
    ·rw[hbe];exact z
   rw[q] at q';cases q'
   obtain⟨v,hv⟩:=heo
   exact⟨v,by rw[hbe];exact hv⟩
  ·refine (ok b u q).stay (fun c v hc r=>k c v ?_ r) (fun c r=>by rw[jJs (nown c b r)];exact r) fun c xs r=>by rw[jJs (ntup c xs r)];exact r
   rcases hc with rfl | hc
   ·exact hbe
   ·rintro rfl
    rcases he with z | z
    ·exact nown c b hc z
    ·rw[hc] at z;cases z;exact hb rfl
end
structure Un (fs ex:List Addr) (H H':Hp) (h h':Heap):Prop where
 keep:∀b o,h.get? b=some o->H b=none->b∉fs->b∉ex->h'.get? b=some o
 slot:∀b o,h.get? b=some o->H b=none->b∈fs->b∉ex->∃sl,h'.get? b=some {o with slots:=sl}
 free:∀b o,h.get? b=some o->H b=none->b∉ex->H' b=none
 there:∀b o,h.get? b=some o->b∉ex->∃o',h'.get? b=some o'
 tups:∀b xs,H b=some (.tup xs)->H' b=some (.tup xs)
 frzs:∀b o u,H b=some (.frz o u)->H' b=some (.frz o u)
 tbls:∀b ps,H b=some (.tbl ps)->∃more,H' b=some (.tbl (ps++more))
section
variable {fs fs' ex ex':List Addr} {H H1 H2:Hp} {h h1 h2 h':Heap} {a x e:Addr} {o:HO}
theorem Un.any (u:Un fs ex H H1 h h1) {b:Addr} {ob:Obj} (q:h.get? b=some ob) (n:H b=none) (hx:b∉ex):∃sl,h1.get? b=some {ob with slots:=sl}:=by
 by_cases hb:b∈fs
 ·exact u.slot b ob q n hb hx
 ·exact⟨ob.slots,u.keep b ob q n hb hx⟩
theorem Un.kept (k:∀b u,h.get? b=some u->h'.get? b=some u):Un fs ex H H h h':=
 ⟨fun b ob q _ _ _=>k b ob q,fun b ob q _ _ _=>⟨ob.slots,k b ob q⟩,fun _ _ _ n _=>n,fun b ob q _=>⟨ob,k b ob q⟩,fun _ _ q=>q,fun _ _ _ q=>q,fun _ ps q=>⟨#[],by rw[q];simp⟩⟩
theorem Un.refl:Un fs ex H H h h:=Un.kept fun _ _ q=>q
theorem Un.laid (k:∀b u,h.get? b=some u->h'.get? b=some u) (hp:h.objs.size<=a) (hn:H a=none):Un fs ex H (upd H a o) h h' where
 keep:=fun b u q _ _ _=>k b u q
 slot:=fun b u q _ _ _=>⟨u.slots,k b u q⟩
 free:=fun b u q n _=>by rw[jJs (Nat.ne_of_lt (Nat.lt_of_lt_of_le (Heap.lt_size q) hp))];exact n
 there:=fun b u q _=>⟨u,k b u q⟩
 tups:=fun b xs q=>by rw[jJs (jQg q hn)];exact q
 frzs:=fun b u xs q=>by rw[jJs (jQg q hn)];exact q
 tbls:=fun b ps q=>⟨#[],by rw[jJs (jQg q hn),q];simp⟩
theorem Un.write (mu:Mut (H x)) (he:e=x\/H e=some (.own x)) (k:∀b u,b≠e->h.get? b=some u->h'.get? b=some u) (heo:∃u,h'.get? e=some u):Un fs ex H (upd H x o) h h':=by
 have hx:∀b,H b=none->b≠x:=fun b n z=>by subst z;rw[n] at mu;exact mu
 have hb:∀b,H b=none->b≠e:=fun b n z=>by
  subst z
  rcases he with r | r
  ·exact hx b n r
  ·rw[n] at r;cases r
 have hm:∀b u,H b=some u->¬ Mut (some u)->b≠x:=fun b u q nm z=>by subst z;rw[q] at mu;exact nm mu
 refine⟨fun b u q n _ _=>k b u (hb b n) q,fun b u q n _ _=>⟨u.slots,k b u (hb b n) q⟩,fun b u q n _=>by rw[jJs (hx b n)];exact n,fun b u q _=> ?_,
  fun b xs q=>by rw[jJs (hm b _ q fun z=>z)];exact q,fun b u xs q=>by rw[jJs (hm b _ q fun z=>z)];exact q,fun b ps q=>⟨#[],by rw[jJs (hm b _ q fun z=>z),q];simp⟩⟩
 by_cases hbe:b=e
 ·subst hbe;exact heo
 ·exact⟨u,k b u hbe q⟩
end
def trk (h:Heap) (H:Hp):List Addr:=(List.range h.objs.size).filter fun a=>(H a).isSome
def hidT (h:Heap) (H:Hp):Heap:=PySem.W.hideAll h (trk h H)
theorem kU2 (h:Heap) (H:Hp):(hidT h H).objs.size=h.objs.size:=PySem.W.hideAll_size _ _
theorem kYc {h:Heap} {H:Hp} {b:Addr} {o:Obj} (e:h.get? b=some o) (n:H b=none):(hidT h H).get? b=some o:=
 PySem.W.hideAll_get _ e fun hm=>by
  have q:(H b).isSome=true:=(List.mem_filter.mp hm).2
  rw[n] at q;simp at q
theorem kZ5 {h:Heap} {H:Hp} {b:Addr} {o:Obj} (e:(hidT h H).get? b=some o):h.get? b=some o/\H b=none:=by
 have e':h.get? b=some o:=PySem.W.of_hideAll (trk h H) e
 refine⟨e',?_⟩
 cases q:H b with
 | none=>rfl
 | some x=>
  have hm:b∈trk h H:=List.mem_filter.mpr ⟨List.mem_range.mpr (Heap.lt_size e'),by simp[q]⟩
  have z:(hidT h H).get? b=none:=PySem.W.hideAll_none (trk h H) hm
  rw[z] at e;cases e
def qJ2 (g h:Heap) (L:Addr):List (Addr×Obj):=(List.range h.objs.size).filterMap fun a=>if a=L\/(g.get? a).isSome=true then none else (h.get? a).map fun o=>(a,o)
def rest (g h:Heap) (L d:Addr):List (Addr×Obj):=(qJ2 g h L).filter fun p=>decide (p.1≠d)
structure Mod (K:PySem.W.Frag) (mg:Str->Option Value) (base:Heap):Prop where
 kin:K.In base
 glob:base.Ns mainGlobals mg
 blt:∃mb,base.Ns builtinsNs mb/\∀x:Str,x≠"__name__"->mb x=bootBuiltins x
 nolimit:base.NoLimit
structure Cx where
 prog:Program
 w:World
 K:PySem.W.Frag
 mg:Str->Option Value
 base:Heap
 A:Around
 N:List Str
 s₀:Shared
 H₀:Hp
 env:Env
 outer:List Env
 stack:List Env
 ex:List Addr
 fn:Str->Bool
 calm:Bool
 pn:List (Addr×Obj)
 xe:Value->Shared->Prop
def frs (l:List Env):List Addr:=l.filterMap (·.frame)
abbrev Cx.fs (X:Cx):List Addr:=frs X.outer
def Vis (sc:Scope) (x:Str):Prop:=sc.names.lookup x=some .local\/sc.names.lookup x=some .cell\/sc.names.lookup x=some .free
def Loc (sc:Scope) (x:Str):Prop:=sc.names.lookup x=some .local\/sc.names.lookup x=some .cell
noncomputable def Look (env:Env) (h:Heap) (m:Str->Option Value) (x:Str) (u:Value):Prop:=
 (env.kindOf x=some .local/\m x=some u)\/((env.kindOf x=some .cell\/env.kindOf x=some .free)/\∃c,env.cells.lookup x=some c/\h.IsCell c (some u))
structure Cx.Ok (X:Cx):Prop where
 mod:Mod X.K X.mg X.base
 kind:X.env.scope.kind= .function
 glob:X.env.globals=mainGlobals
 blt:X.env.builtins=builtinsNs
 above:X.s₀.heap.objs.size<=X.env.locals
 inj:∀x y c,X.env.cells.lookup x=some c->X.env.cells.lookup y=some c->x=y
 has:∀x,(X.env.kindOf x=some .cell\/X.env.kindOf x=some .free)->∃c,X.env.cells.lookup x=some c
 cab:∀x c,X.fn x=true->X.env.cells.lookup x=some c->X.s₀.heap.objs.size<=c
 hd:X.calm=true->X.A.handled=none
 gd:X.calm=true->X.A.guards=some []
 frames:X.A.frames=some X.stack
 stk:X.stack=X.outer\/(X.stack=X.env::X.outer/\X.env.frame=some X.env.locals)
 exf:∀b∈X.ex,b≠X.env.locals/\∀x c,X.env.cells.lookup x=some c->c≠b
 bs:∀b o,X.base.get? b=some o->X.s₀.heap.get? b=some o/\X.H₀ b=none
 bsz:X.base.objs.size<=X.s₀.heap.objs.size
 noex:∀b o,X.base.get? b=some o->b∉X.ex
 exfs:∀b∈X.ex,b∉X.fs
 funs:X.s₀.heap.FunFrames X.base X.outer
 frf:∀b∈X.fs,X.H₀ b=none
structure Inv (X:Cx) (pins:List (Addr×Obj)) (σ:List (Option V)) (H:Hp) (s:Shared):Prop where
 ok:X.Ok
 os:s.os=X.s₀.os
 bare:AllBare s.gens
 base:Un X.fs X.ex X.H₀ H X.s₀.heap s.heap
 loc:∃m,s.heap.Ns X.env.locals m/\∀(i:Nat) (x:Str) (v:V),X.N[i]? =some x->σ[i]? =some (some v)->Vis X.env.scope x->∃u,RelV v u/\Look X.env s.heap m x u
 cell:∀x c,X.env.cells.lookup x=some c->∃v,s.heap.IsCell c v
 free:H X.env.locals=none
 freeC:∀x c,X.env.cells.lookup x=some c->H c=none
 pin:∀p∈X.pn++pins,s.heap.get? p.1=some p.2/\H p.1=none/\p.1≠X.env.locals/\p.1∉X.fs/\∀v,p.2.data≠ .cell v
 hok:HOk X.prog X.w H s.heap
 len:σ.length=X.N.length
section
variable {X:Cx} {pins:List (Addr×Obj)} {σ:List (Option V)} {H H':Hp} {s:Shared} {h':Heap}
theorem Cx.Ok.nofr (ok:X.Ok) {b:Addr} {o:Obj} (e:X.base.get? b=some o):b∉X.fs:=fun hb=>by
 have:=(ok.funs.mem hb).1
 rw[e] at this;cases this
theorem Inv.bs (I:Inv X pins σ H s):∀b o,X.base.get? b=some o->s.heap.get? b=some o/\H b=none:=fun b o e=>
 ⟨I.base.keep b o (I.ok.bs b o e).1 (I.ok.bs b o e).2 (I.ok.nofr e) (I.ok.noex b o e),I.base.free b o (I.ok.bs b o e).1 (I.ok.bs b o e).2 (I.ok.noex b o e)⟩
theorem Inv.bk (I:Inv X pins σ H s):∀b o,X.base.get? b=some o->s.heap.get? b=some o:=fun b o e=>(I.bs b o e).1
theorem Inv.mod (I:Inv X pins σ H s):Mod X.K X.mg X.base:=I.ok.mod
theorem Inv.kIn (I:Inv X pins σ H s):X.K.In s.heap:=I.ok.mod.kin.keeps I.bk
theorem Inv.lt (I:Inv X pins σ H s):X.env.locals<s.heap.objs.size:=let ⟨_,hn,_⟩:=I.loc;hn.lt
theorem Inv.sz (I:Inv X pins σ H s):X.s₀.heap.objs.size<=s.heap.objs.size:=Nat.le_trans I.ok.above (Nat.le_of_lt I.lt)
theorem Inv.nofs (I:Inv X pins σ H s) {a:Addr} (h:s.heap.objs.size<=a):a∉X.fs:=fun hb=>by
 obtain⟨_,o,ho,_⟩:=I.ok.funs.mem hb
 exact absurd (Nat.lt_of_lt_of_le (Heap.lt_size ho) (Nat.le_trans I.sz h)) (Nat.lt_irrefl _)
theorem Inv.cne (I:Inv X pins σ H s):∀x c,X.env.cells.lookup x=some c->c≠X.env.locals:=fun x c e z=>by
 obtain⟨v,o,ho,hd⟩:=I.cell x c e
 obtain⟨m,⟨o',es,ep,ho',hd',_⟩,_⟩:=I.loc
 rw[z,ho'] at ho;cases ho;rw[hd'] at hd;cases hd
theorem Inv.funs (I:Inv X pins σ H s):s.heap.FunFrames X.base X.outer:=by
 have all:∀(l:List Env),(∀b∈frs l,b∈X.fs)->X.s₀.heap.FunFrames X.base l->s.heap.FunFrames X.base l:=by
  intro l
  induction l with
  | nil=>intro _ _;trivial
  | cons env r ih=>
   intro hs hl
   obtain⟨hk,⟨L,o,hf,hn,ho,hd⟩,hr⟩:=hl
   have hL:L∈X.fs:=hs L (by unfold frs;rw[List.filterMap_cons,hf];exact List.mem_cons_self)
   obtain⟨sl,e⟩:=I.base.slot L o ho (I.ok.frf L hL) hL fun z=>I.ok.exfs L z hL
   exact⟨hk,⟨L,_,hf,hn,e,hd⟩,ih (fun b hb=>hs b (by unfold frs;rw[List.filterMap_cons,hf];exact List.mem_cons_of_mem _ hb)) hr⟩
 exact all X.outer (fun _ hb=>hb) I.ok.funs
theorem Inv.stack (I:Inv X pins σ H s):s.heap.FunFrames X.base X.stack:=by
 rcases I.ok.stk with e | ⟨e,hf⟩
 ·rw[e];exact I.funs
 ·rw[e]
  obtain⟨m,hn,_⟩:=I.loc
  refine .cons (by rw[I.ok.kind];decide) hf hn ?_ I.funs
  exact Heap.get?_none_of_le (Nat.le_trans I.ok.bsz I.ok.above)
theorem Inv.stkSub (I:Inv X pins σ H s):∀b∈frs X.stack,b∈X.env.locals::X.fs:=fun b hb=>by
 rcases I.ok.stk with e | ⟨e,hf⟩
 ·rw[e] at hb;exact List.mem_cons_of_mem _ hb
 ·rw[e] at hb
  unfold frs at hb
  rw[List.filterMap_cons,hf] at hb
  exact hb
theorem Inv.stkFree (I:Inv X pins σ H s):∀b∈frs X.stack,H b=none:=fun b hb=>by
 rcases List.mem_cons.mp (I.stkSub b hb) with e | hb
 ·rw[e];exact I.free
 ·obtain⟨_,o,ho,_⟩:=I.ok.funs.mem hb
  exact I.base.free b o ho (I.ok.frf b hb) fun z=>I.ok.exfs b z hb
theorem Inv.step {g':Array GenState} {t':Nat} {d':Drawn} {ch:List Addr} (I:Inv X pins σ H s)
  (hch:∀b∈ch,(b∈X.ex\/X.s₀.heap.objs.size<=b)/\b≠X.env.locals/\(∀x c,X.env.cells.lookup x=some c->c≠b)/\∀p∈X.pn++pins,p.1≠b)
  (keep:∀b o,b≠X.env.locals->b∉X.fs->b∉ch->s.heap.get? b=some o->H b=none->h'.get? b=some o)
  (slot:∀b o,b≠X.env.locals->b∈X.fs->b∉ch->s.heap.get? b=some o->H b=none->∃sl,h'.get? b=some {o with slots:=sl}) (free:∀b o,b∉ch->s.heap.get? b=some o->H b=none->H' b=none)
  (there:∀b o,b∉ch->s.heap.get? b=some o->∃o',h'.get? b=some o')
  (tups:∀b xs,H b=some (.tup xs)->H' b=some (.tup xs)) (frzs:∀b o u,H b=some (.frz o u)->H' b=some (.frz o u)) (tbls:∀b ps,H b=some (.tbl ps)->∃more,H' b=some (.tbl (ps++more)))
  (ns:∀m,s.heap.Ns X.env.locals m->h'.Ns X.env.locals m) (hok:HOk X.prog X.w H' h') (hg:AllBare g'):
  Inv X pins σ H' {s with heap:=h',gens:=g',drawn:=d',toks:=t'}:=by
 have neL:∀b o,X.s₀.heap.get? b=some o->b≠X.env.locals:=fun b o e=>Nat.ne_of_lt (Nat.lt_of_lt_of_le (Heap.lt_size e) I.ok.above)
 have neC:∀b o,X.s₀.heap.get? b=some o->b∉X.ex->b∉ch:=fun b o e hx hb=>by
  rcases (hch b hb).1 with z | z
  ·exact hx z
  ·exact absurd (Nat.lt_of_lt_of_le (Heap.lt_size e) z) (Nat.lt_irrefl _)
 have cellK:∀x c,X.env.cells.lookup x=some c->∀v,s.heap.IsCell c v->h'.IsCell c v:=fun x c e v ⟨o,ho,hd⟩=>by
  have nch:c∉ch:=fun z=>(hch c z).2.2.1 x c e rfl
  by_cases hc:c∈X.fs
  ·obtain⟨sl,q⟩:=slot c o (I.cne x c e) hc nch ho (I.freeC x c e)
   exact⟨_,q,hd⟩
  ·exact⟨o,keep c o (I.cne x c e) hc nch ho (I.freeC x c e),hd⟩
 refine⟨I.ok,I.os,hg,⟨fun b o e n hb hx=> ?_,fun b o e n hb hx=> ?_,fun b o e n hx=> ?_,fun b o e hx=> ?_,fun b xs e=>tups b xs (I.base.tups b xs e),fun b o xs e=>frzs b o xs (I.base.frzs b o xs e),fun b ps e=> ?_⟩,?_,fun x c e=> ?_,?_,fun x c e=> ?_,fun p hp=> ?_,hok,I.len⟩
 ·exact keep b o (neL b o e) hb (neC b o e hx) (I.base.keep b o e n hb hx) (I.base.free b o e n hx)
 ·obtain⟨sl,e1⟩:=I.base.slot b o e n hb hx
  obtain⟨sl',e2⟩:=slot b _ (neL b o e) hb (neC b o e hx) e1 (I.base.free b o e n hx)
  exact⟨sl',e2⟩
 ·obtain⟨o',e1⟩:=I.base.there b o e hx
  exact free b o' (neC b o e hx) e1 (I.base.free b o e n hx)
 ·obtain⟨o',e1⟩:=I.base.there b o e hx
  exact there b o' (neC b o e hx) e1
 ·obtain⟨m1,e1⟩:=I.base.tbls b ps e
  obtain⟨m2,e2⟩:=tbls b _ e1
  exact⟨m1++m2,by rw[e2,Array.append_assoc]⟩
 ·obtain⟨m,hn,hl⟩:=I.loc
  refine⟨m,ns m hn,fun i x v e1 e2 e3=> ?_⟩
  obtain⟨u,r,l⟩:=hl i x v e1 e2 e3
  refine⟨u,r,?_⟩
  rcases l with l | ⟨k,c,e,z⟩
  ·exact .inl l
  ·exact .inr ⟨k,c,e,cellK x c e _ z⟩
 ·obtain⟨v,z⟩:=I.cell x c e
  exact⟨v,cellK x c e v z⟩
 ·obtain⟨m,⟨o,_,_,ho,_⟩,_⟩:=I.loc
  exact free _ o (fun z=>(hch _ z).2.1 rfl) ho I.free
 ·obtain⟨v,o,ho,hd⟩:=I.cell x c e
  exact free c o (fun z=>(hch c z).2.2.1 x c e rfl) ho (I.freeC x c e)
 ·obtain⟨e,n,ne,nf,d⟩:=I.pin p hp
  have nch:p.1∉ch:=fun z=>(hch p.1 z).2.2.2 p hp rfl
  exact⟨keep p.1 p.2 ne nf nch e n,free p.1 p.2 nch e n,ne,nf,d⟩
theorem Inv.un {t':Nat} (I:Inv X pins σ H s) (u:Un X.fs [] H H' s.heap h') (hok:HOk X.prog X.w H' h'):Inv X pins σ H' {s with heap:=h',toks:=t'}:=by
 obtain⟨m,⟨o,es,ep,ho,r⟩,_⟩:=id I.loc
 obtain⟨sl,hL⟩:=u.any ho I.free (by simp)
 exact I.step (g':=s.gens) (d':=s.drawn) (ch:=[]) (fun _ z=>nomatch z) (fun b o _ hb _ e n=>u.keep b o e n hb (by simp)) (fun b o _ hb _ e n=>u.slot b o e n hb (by simp)) (fun b o _ e n=>u.free b o e n (by simp)) (fun b o _ e=>u.there b o e (by simp)) u.tups u.frzs u.tbls (fun m' hm=>by
  obtain⟨o',es',ep',ho',r'⟩:=hm
  rw[ho] at ho';cases ho'
  exact⟨_,es',ep',hL,r'⟩) hok I.bare
theorem Inv.call {g':Array GenState} {t':Nat} {d':Drawn} {ch:List Addr} (I:Inv X pins σ H s) (u:Un (frs X.stack) ch H H' s.heap h') (hok:HOk X.prog X.w H' h') (hg:AllBare g')
  (hch:∀b∈ch,(b∈X.ex\/X.s₀.heap.objs.size<=b)/\b≠X.env.locals/\(∀x c,X.env.cells.lookup x=some c->c≠b)/\∀p∈X.pn++pins,p.1≠b):
  Inv X pins σ H' {s with heap:=h',gens:=g',drawn:=d',toks:=t'}:=by
 obtain⟨m,⟨o,es,ep,ho,r⟩,_⟩:=id I.loc
 obtain⟨sl,hL⟩:=u.any ho I.free fun z=>(hch _ z).2.1 rfl
 exact I.step (ch:=ch) hch (fun b o hL hb hc e n=>u.keep b o e n (fun z=>(List.mem_cons.mp (I.stkSub b z)).elim hL hb) hc) (fun b o _ _ hc e n=>u.any e n hc) (fun b o hc e n=>u.free b o e n hc) (fun b o hc e=>u.there b o e hc) u.tups u.frzs u.tbls (fun m' hm=>by
  obtain⟨o',es',ep',ho',r'⟩:=hm
  rw[ho] at ho';cases ho'
  exact⟨_,es',ep',hL,r'⟩) hok hg
theorem Inv.turned {t':Nat} {it:Addr} (I:Inv X pins σ H s) (k:∀b o,b≠it->s.heap.get? b=some o->h'.get? b=some o) (hn:H it=none) (hL:it≠X.env.locals)
  (h1:it∈X.ex\/X.s₀.heap.objs.size<=it) (h2:∀x c,X.env.cells.lookup x=some c->c≠it) (h3:∀p∈X.pn++pins,p.1≠it):Inv X pins σ H {s with heap:=h',toks:=t'}:=by
 have nit:∀b u,H b=some u->b≠it:=fun b u e z=>by rw[z,hn] at e;cases e
 refine I.step (g':=s.gens) (d':=s.drawn) (ch:=[it]) (fun b hb=> ?_) (fun b o _ _ hc e _=>k b o (fun z=>hc (by simp[z])) e) (fun b o _ _ hc e _=>⟨o.slots,k b o (fun z=>hc (by simp[z])) e⟩) (fun _ _ _ _ n=>n)
  (fun b o hc e=>⟨o,k b o (fun z=>hc (by simp[z])) e⟩) (fun _ _ e=>e) (fun _ _ _ e=>e) (fun b ps e=>⟨#[],by rw[e];simp⟩) (fun m hm=> ?_) (fun b u e=> ?_) I.bare
 ·have e:b=it:=by simpa using hb
  subst e
  exact⟨h1,hL,h2,h3⟩
 ·obtain⟨o,es,ep,ho,r⟩:=hm
  exact⟨o,es,ep,k _ o (Ne.symm hL) ho,r⟩
 ·refine (I.hok b u e).stay (fun c v hc q=>k c v ?_ q) (fun _ q=>q) fun _ _ q=>q
  rcases hc with z | z
  ·rw[z];exact nit b u e
  ·exact nit c _ z
theorem Inv.tok (I:Inv X pins σ H s) (t:Nat):Inv X pins σ H {s with toks:=t}:=I.un (h':=s.heap) (t':=t) Un.refl I.hok
theorem Inv.kept {t':Nat} (I:Inv X pins σ H s) (k:∀b u,s.heap.get? b=some u->h'.get? b=some u):Inv X pins σ H {s with heap:=h',toks:=t'}:=I.un (Un.kept k) (I.hok.kept k)
theorem Inv.laid {a:Addr} {o:HO} {t':Nat} (I:Inv X pins σ H s) (k:∀b u,s.heap.get? b=some u->h'.get? b=some u) (hp:s.heap.objs.size<=a) (new:ObjOk X.prog X.w (upd H a o) h' a o):
  Inv X pins σ (upd H a o) {s with heap:=h',toks:=t'}:=I.un (Un.laid k hp (I.hok.fresh hp)) (I.hok.laid k hp new)
theorem Inv.write {x e:Addr} {o:HO} {t':Nat} (I:Inv X pins σ H s) (mu:Mut (H x)) (he:e=x\/H e=some (.own x)) (k:∀b u,b≠e->s.heap.get? b=some u->h'.get? b=some u) (heo:∃u,h'.get? e=some u)
  (new:ObjOk X.prog X.w (upd H x o) h' x o):Inv X pins σ (upd H x o) {s with heap:=h',toks:=t'}:=I.un (Un.write mu he k heo) (I.hok.write mu he k heo new)
theorem Inv.weak {σ':List (Option V)} (I:Inv X pins σ H s) (hl:σ'.length=σ.length) (w:∀(i:Nat) v,σ'[i]? =some (some v)->σ[i]? =some (some v)):Inv X pins σ' H s:=
 ⟨I.ok,I.os,I.bare,I.base,let ⟨m,hn,hl'⟩:=I.loc;⟨m,hn,fun i x v e1 e2 e3=>hl' i x v e1 (w i v e2) e3⟩,I.cell,I.free,I.freeC,I.pin,I.hok,hl.trans I.len⟩
theorem Inv.pins_of {pins':List (Addr×Obj)} (I:Inv X pins σ H s) (h:∀p∈pins',s.heap.get? p.1=some p.2/\H p.1=none/\p.1≠X.env.locals/\p.1∉X.fs/\∀v,p.2.data≠ .cell v):Inv X pins' σ H s:=
 ⟨I.ok,I.os,I.bare,I.base,I.loc,I.cell,I.free,I.freeC,fun p hp=>(List.mem_append.mp hp).elim (fun z=>I.pin p (List.mem_append_left _ z)) (h p),I.hok,I.len⟩
theorem jYm {N:List Str} (hN:N.Nodup) {i j:Nat} {x:Str} (a:N[i]? =some x) (b:N[j]? =some x):i=j:=by
 obtain⟨h1,e1⟩:=List.getElem?_eq_some_iff.mp a
 obtain⟨h2,e2⟩:=List.getElem?_eq_some_iff.mp b
 exact (List.getElem_inj hN).mp (e1.trans e2.symm)
theorem kQ0 {M:Model} {A:Around} {E:Value->Shared->Prop} {i:Nat} {x:Str} {v:V} {u:Value} {Q:Unit->Shared->Prop} (I:Inv X pins σ H s) (hN:X.N.Nodup) (hi:X.N[i]? =some x) (hx:Loc X.env.scope x) (r:RelV v u)
  (h:∀s',Inv X pins (σ.set i (some v)) H s'->(∃a,Heap.SameBut a s.heap s'.heap/\(a=X.env.locals\/X.env.cells.lookup x=some a))->Q () s') (hf:X.fn x=true\/X.env.scope.names.lookup x=some .local:=by first | exact .inl rfl | exact .inr rfl | assumption):wpAny M A (storeName X.env x u) Q E s:=by
 obtain⟨m,hn,hl⟩:=id I.loc
 have hcls:(X.env.scope.kind == .class||(X.env.scope.kind == .module&&X.env.locals != X.env.globals))=false:=by rw[I.ok.kind];rfl
 have hiσ:i<σ.length:=by rw[I.len];exact (List.getElem?_eq_some_iff.mp hi).1
 have cne:=I.cne
 have tracked:∀ {a:Addr} {h':Heap},(∃o,s.heap.get? a=some o/\H a=none)->Heap.SameBut a s.heap h'->HOk X.prog X.w H h':=fun {a h'} ha hs b ob e=>by
  obtain⟨_,_,hfree⟩:=ha
  refine (I.hok b ob e).stay (fun c w' hc q=>(hs.2 c ?_).trans q) (fun _ q=>q) fun _ _ q=>q
  rintro rfl
  rcases hc with rfl | hc
  ·rw[hfree] at e;cases e
  ·rw[hfree] at hc;cases hc
 rcases hx with hk | hk
 ·refine wpAny_storeName_local hk hn (fun h' hn' hs=> ?_) hcls
  obtain⟨oL,_,_,hoL,_⟩:=id hn
  refine h _ ⟨I.ok,I.os,I.bare,⟨fun b o e n hb hx=> ?_,fun b o e n hb hx=> ?_,I.base.free,fun b o e hx=> ?_,I.base.tups,I.base.frzs,I.base.tbls⟩,⟨_,hn',fun j y v' e1 e2 e3=> ?_⟩,fun y c e=> ?_,I.free,I.freeC,fun p hp=> ?_,tracked ⟨oL,hoL,I.free⟩ hs,by simpa using I.len⟩ ⟨_,hs,.inl rfl⟩
  ·exact (hs.2 b (Nat.ne_of_lt (Nat.lt_of_lt_of_le (Heap.lt_size e) I.ok.above))).trans (I.base.keep b o e n hb hx)
  ·obtain⟨sl,e1⟩:=I.base.slot b o e n hb hx
   exact⟨sl,(hs.2 b (Nat.ne_of_lt (Nat.lt_of_lt_of_le (Heap.lt_size e) I.ok.above))).trans e1⟩
  ·obtain⟨o',e1⟩:=I.base.there b o e hx
   exact⟨o',(hs.2 b (Nat.ne_of_lt (Nat.lt_of_lt_of_le (Heap.lt_size e) I.ok.above))).trans e1⟩
  ·by_cases hj:j=i
   ·subst hj
    rw[hi] at e1;cases e1
    rw[List.getElem?_set_self hiσ] at e2
    cases e2
    exact⟨u,r,.inl ⟨hk,by simp⟩⟩
   ·rw[List.getElem?_set_ne (Ne.symm hj)] at e2
    obtain⟨u',r',q⟩:=hl j y v' e1 e2 e3
    refine⟨u',r',?_⟩
    rcases q with ⟨k,e⟩ | ⟨k,c,e,z⟩
    ·refine .inl ⟨k,?_⟩
     have:y≠x:=fun e=>hj (jYm hN e1 (e▸hi))
     simp[this,e]
    ·exact .inr ⟨k,c,e,z.sameBut hs (cne y c e)⟩
  ·obtain⟨w',z⟩:=I.cell y c e
   exact⟨w',z.sameBut hs (cne y c e)⟩
  ·obtain⟨e,n,ne,nf,d⟩:=I.pin p hp
   exact⟨(hs.2 p.1 ne).trans e,n,ne,nf,d⟩
 ·have hfn:X.fn x=true:=by
   rcases hf with z | z
   ·exact z
   ·rw[z] at hk;cases hk
  obtain⟨c,hc⟩:=I.ok.has x (.inl hk)
  obtain⟨w',z⟩:=I.cell x c hc
  refine wpAny_storeName_cell I.ok.kind hk hc z (fun h' hc' hs=> ?_)
  obtain⟨oc,hoc,hocd⟩:=id z
  refine h {s with heap:=h'} ⟨I.ok,I.os,I.bare,⟨fun b o e n hb hx=> ?_,fun b o e n hb hx=> ?_,I.base.free,fun b o e hx=> ?_,I.base.tups,I.base.frzs,I.base.tbls⟩,⟨m,hn.sameBut hs (Ne.symm (cne x c hc)),fun j y v' e1 e2 e3=> ?_⟩,fun y c' e=> ?_,I.free,I.freeC,fun p hp=> ?_,tracked ⟨oc,hoc,I.freeC x c hc⟩ hs,by simpa using I.len⟩ ⟨c,hs,.inr hc⟩
  ·exact (hs.2 b (Nat.ne_of_lt (Nat.lt_of_lt_of_le (Heap.lt_size e) (I.ok.cab x c hfn hc)))).trans (I.base.keep b o e n hb hx)
  ·obtain⟨sl,e1⟩:=I.base.slot b o e n hb hx
   exact⟨sl,(hs.2 b (Nat.ne_of_lt (Nat.lt_of_lt_of_le (Heap.lt_size e) (I.ok.cab x c hfn hc)))).trans e1⟩
  ·obtain⟨o',e1⟩:=I.base.there b o e hx
   exact⟨o',(hs.2 b (Nat.ne_of_lt (Nat.lt_of_lt_of_le (Heap.lt_size e) (I.ok.cab x c hfn hc)))).trans e1⟩
  ·by_cases hj:j=i
   ·subst hj
    rw[hi] at e1;cases e1
    rw[List.getElem?_set_self hiσ] at e2
    cases e2
    exact⟨u,r,.inr ⟨.inl hk,c,hc,hc'⟩⟩
   ·rw[List.getElem?_set_ne (Ne.symm hj)] at e2
    obtain⟨u',r',q⟩:=hl j y v' e1 e2 e3
    refine⟨u',r',?_⟩
    rcases q with q | ⟨k,c',e,z'⟩
    ·exact .inl q
    ·refine .inr ⟨k,c',e,z'.sameBut hs ?_⟩
     rintro rfl
     exact hj (jYm hN e1 (I.ok.inj _ _ _ e hc▸hi))
  ·by_cases hcc:c'=c
   ·subst hcc;exact⟨_,hc'⟩
   ·obtain⟨w2,z2⟩:=I.cell y c' e
    exact⟨w2,z2.sameBut hs hcc⟩
  ·obtain⟨e,n,ne,nf,d⟩:=I.pin p hp
   refine⟨(hs.2 p.1 ?_).trans e,n,ne,nf,d⟩
   intro q
   rw[q,hoc] at e
   have q':oc=p.2:=Option.some.inj e
   exact d w' (by rw[<-q'];exact hocd)
theorem jK3 {M:Model} {A:Around} {E:Value->Shared->Prop} {i:Nat} {x:Str} {v:V} {u:Value} {Q:Unit->Shared->Prop} (I:Inv X pins σ H s) (hN:X.N.Nodup) (hi:X.N[i]? =some x) (hx:Loc X.env.scope x) (r:RelV v u)
  (h:∀s',Inv X pins (σ.set i (some v)) H s'->Q () s') (hf:X.fn x=true\/X.env.scope.names.lookup x=some .local:=by first | exact .inl rfl | exact .inr rfl | assumption):wpAny M A (storeName X.env x u) Q E s:=
 kQ0 I hN hi hx r (fun s' I' _=>h s' I') hf
theorem Inv.call' {s':Shared} {ch:List Addr} (I:Inv X pins σ H s) (ho:s'.os=s.os) (u:Un (frs X.stack) ch H H' s.heap s'.heap) (hok:HOk X.prog X.w H' s'.heap) (hg:AllBare s'.gens)
  (hch:∀b∈ch,(b∈X.ex\/X.s₀.heap.objs.size<=b)/\b≠X.env.locals/\(∀x c,X.env.cells.lookup x=some c->c≠b)/\∀p∈X.pn++pins,p.1≠b):Inv X pins σ H' s':=by
 obtain⟨h',g',d',t',o'⟩:=s'
 have e:o'=s.os:=ho
 subst e
 exact I.call (g':=g') (t':=t') (d':=d') u hok hg hch
end
abbrev XK:=Value->Option Addr->Hp->Prop
abbrev St:=List (Option V)
abbrev VK:=V->Hp->Prop
abbrev TE:=St->Hp->VK->Prop
abbrev TT:=St->Hp->(Bool->Hp->Prop)->Prop
abbrev TA:=St->Hp->(List V->Hp->Prop)->Prop
structure Ends where
 nx:St->Hp->Prop
 rt:VK
 bk:St->Hp->Prop:=fun _ _=>False
 ct:St->Hp->Prop:=fun _ _=>False
abbrev TS:=Ends->St->Hp->Prop
def EP (X:Cx) (pins:List (Addr×Obj)) (σ:St) (Q:VK) (u:Value) (s':Shared):Prop:=∃v H',Inv X pins σ H' s'/\RelV v u/\Q v H'
def TP (X:Cx) (pins:List (Addr×Obj)) (σ:St) (Q:Bool->Hp->Prop) (b:Bool) (s':Shared):Prop:=∃H',Inv X pins σ H' s'/\Q b H'
noncomputable def SP (X:Cx) (pins:List (Addr×Obj)) (D:Ends) (f:Flow) (s':Shared):Prop:=
 match f with
 | .next=>∃ σ' H',Inv X pins σ' H' s'/\D.nx σ' H'
 | .brk=>∃ σ' H',Inv X pins σ' H' s'/\D.bk σ' H'
 | .cont=>∃ σ' H',Inv X pins σ' H' s'/\D.ct σ' H'
 | .ret u=>∃v σ' H',Inv X pins σ' H' s'/\RelV v u/\D.rt v H'
noncomputable def PE (X:Cx) (e:Expr) (t:TE):Prop:=
 ∀(pins:List (Addr×Obj)) (s:Shared) (σ:St) (H:Hp) (Q:VK),Inv X pins σ H s->t σ H Q->wpAny (model X.prog X.w) X.A (eval e X.env) (EP X pins σ Q) X.xe s
noncomputable def PSs (X:Cx) (st:List Stmt) (t:TS):Prop:=
 ∀(pins:List (Addr×Obj)) (s:Shared) (σ:St) (H:Hp) (D:Ends),Inv X pins σ H s->t D σ H->wpAny (model X.prog X.w) X.A (execs st X.env) (SP X pins D) X.xe s
theorem thn {α:Type} {t:Sem α} {Q Q':α->Shared->Prop} {M:Model} {A:Around} {E:Value->Shared->Prop} {s:Shared} (h:wpAny M A t Q E s) (hQ:∀a s,Q a s->Q' a s):wpAny M A t Q' E s:=wpAny_mono h hQ fun _ _ x=>x
section
variable {X:Cx}
def tVar (i:Nat):TE:=fun σ H Q=>∃v,σ[i]? =some (some v)/\Q v H
def tC (v:V):TE:=fun _ H Q=>Q v H
theorem pe_var {i:Nat} {x:Str} {pos:Pos} (hN:X.N[i]? =some x) (hv:Vis X.env.scope x) (hd:(x == ("__debug__":Str))=false:=by decide) (hcd:(x == ("__classdict__":Str))=false:=by decide):PE X (.Name x pos) (tVar i):=by
 intro pins s σ H Q I h
 obtain⟨v,e,h⟩:=h
 obtain⟨m,hn,hl⟩:=I.loc
 obtain⟨u,r,l⟩:=hl i x v hN e hv
 have fin:EP X pins σ Q u s:=⟨v,H,I,r,h⟩
 rcases l with ⟨hk,hm⟩ | ⟨hk,c,hc,hcell⟩
 ·exact wpAny_Name (wpAny_loadName_local I.ok.kind hk hn hm fin) hd
 ·rcases hk with hk | hk
  ·exact wpAny_Name (wpAny_loadName_cell I.ok.kind hk hc hcell fin) hd
  ·exact wpAny_Name (wpAny_loadName_free I.ok.kind hk hc hcell fin hcd) hd
theorem pe_int {i j pos}:PE X (.Constant (.int i) j pos) (tC (.int i)):=fun _ _ _ H _ I h=>wpAny_Constant_int ⟨.int i,H,I.tok _,⟨_,rfl⟩,h⟩
theorem pe_bl {b j pos}:PE X (.Constant (.bool b) j pos) (tC (.bl b)):=fun _ _ _ H _ I h=>Constant_bool ⟨.bl b,H,I,rfl,h⟩
theorem pe_non {j pos}:PE X (.Constant .none j pos) (tC .non):=fun _ _ _ H _ I h=>Constant_none ⟨.non,H,I,rfl,h⟩
theorem pe_str {x j pos}:PE X (.Constant (.str x) j pos) (tC (.str x)):=fun _ _ _ H _ I h=>Calls.Constant_str ⟨.str x,H,I.tok _,⟨_,rfl⟩,h⟩
def Gl (X:Cx) (x:Str):Prop:=X.env.kindOf x=some .globalImplicit
theorem jU3 {E:Value->Shared->Prop} {pins:List (Addr×Obj)} {s:Shared} {σ:St} {H:Hp} {x:Str} {u:Value} {pos:Pos} {Q:Value->Shared->Prop} (I:Inv X pins σ H s) (hg:Gl X x) (hm:X.mg x=some u) (h:Q u s)
  (hd:(x == ("__debug__":Str))=false:=by decide):wpAny (model X.prog X.w) X.A (eval (.Name x pos) X.env) Q E s:=
 Calls.Name_function_global I.ok.kind hg (Calls.loadGlobal_global (by rw[I.ok.glob];exact I.mod.glob.keeps I.bk) hm h) hd
theorem jK1 {E:Value->Shared->Prop} {pins:List (Addr×Obj)} {s:Shared} {σ:St} {H:Hp} {x:Str} {u:Value} {pos:Pos} {Q:Value->Shared->Prop} (I:Inv X pins σ H s) (hg:Gl X x) (hm:X.mg x=none) (hv:bootBuiltins x=some u) (h:Q u s)
  (hn:x≠"__name__":=by decide) (hd:(x == ("__debug__":Str))=false:=by decide):wpAny (model X.prog X.w) X.A (eval (.Name x pos) X.env) Q E s:=by
 obtain⟨mb,h1,h2⟩:=I.mod.blt
 exact Calls.Name_function_global I.ok.kind hg (Calls.loadGlobal_builtin (by rw[I.ok.glob];exact I.mod.glob.keeps I.bk) hm (by rw[I.ok.blt];exact h1.keeps I.bk) ((h2 x hn).trans hv) h) hd
variable {a b:Expr} {ta tb:TE} {pos:Pos}
def tB (t:TE):TT:=fun σ H Q=>t σ H fun x H1=>∃c,x= .bl c/\Q c H1
variable {tA tB':TT} {rest:List Expr}
def tOrV (ta tb:TE):TE:=fun σ H Q=>ta σ H fun x H1=>∃c,x= .bl c/\if c=true then Q (.bl true) H1 else tb σ H1 Q
def tNotV (ta:TE):TE:=fun σ H Q=>ta σ H fun x H1=>∃c,x= .bl c/\Q (.bl (!c)) H1
end
noncomputable def SqL (K:PySem.W.Frag) (H:Hp) (a:Addr) (xs:List V):Prop:=
 Rd H a (.lst xs)\/
  ∃(o:Obj) (its:Array Value) (n:Nat),K.lookup a=some o/\o.cls= .type "list"/\o.dict=none/\o.data= .seq its n/\its.size<=sizeLine/\Vals xs its.toList
noncomputable def SqT (K:PySem.W.Frag) (H:Hp) (a:Addr) (xs:List V):Prop:=
 Rd H a (.tup xs)\/
  ∃(o:Obj) (its:Array Value) (n:Nat),K.lookup a=some o/\o.cls= .type "tuple"/\o.data= .seq its n/\its.size<=sizeLine/\Vals xs its.toList
noncomputable def absV:Value->Option V
 | .none=>some .non
 | .bool b=>some (.bl b)
 | .int i _=>some (.int i)
 | .str x _=>some (.str x)
 | .bytes b _=>some (.byt b)
 | .float b _=>some (.flt b)
 | .ref a=>some (.ref a)
 | .type n=>some (.ty n)
 | _=>none
theorem RelV.abs {x:V} {u:Value} (r:RelV x u):absV u=some x:=by
 cases x with
 | non=>cases r;rfl
 | bl _=>cases r;rfl
 | int _=>obtain⟨t,rfl⟩:=r;rfl
 | str _=>obtain⟨t,rfl⟩:=r;rfl
 | byt _=>obtain⟨t,rfl⟩:=r;rfl
 | flt _=>obtain⟨t,rfl⟩:=r;rfl
 | ref _=>cases r;rfl
 | ty _=>cases r;rfl
theorem RelV.inj {x y:V} {u:Value} (r:RelV x u) (q:RelV y u):x=y:=Option.some.inj (r.abs.symm.trans q.abs)
theorem Vals.inj {xs ys:List V} {us:List Value} (h:Vals xs us) (g:Vals ys us):xs=ys:=by
 induction h generalizing ys with
 | nil=>(cases g;rfl)
 | cons r _ ih=>(cases g with | cons r' t'=>rw[r.inj r',ih t'])
section
variable {X:Cx} {pins:List (Addr×Obj)} {σ:St} {H:Hp} {s:Shared} {a:Addr} {xs ys:List V}
theorem SqL.of {K:PySem.W.Frag} (h:H a=some (.lst xs)):SqL K H a xs:= .inl (.inl h)
theorem SqT.of {K:PySem.W.Frag} (h:H a=some (.tup xs)):SqT K H a xs:= .inl (.inl h)
theorem Inv.list (I:Inv X pins σ H s) (h:SqL X.K H a xs):∃its:List Value,Vals xs its/\PlainL s.heap a its.toArray/\xs.length<=sizeLine:=by
 rcases h with h | ⟨o,its,n,hk,hc,hd,hs,hz,r⟩
 ·obtain⟨z,its,n,r,e⟩:=h.ok I.hok
  exact⟨its,r,⟨_,n,e,rfl,rfl,rfl⟩,z⟩
 ·refine⟨its.toList,r,⟨o,n,I.kIn a o hk,hc,hd,by simpa using hs⟩,?_⟩
  have e:=r.length
  simp only[Array.length_toList] at e
  omega
theorem Inv.tuple (I:Inv X pins σ H s) (h:SqT X.K H a xs):∃its:List Value,Vals xs its/\IsTup s.heap a its.toArray/\xs.length<=sizeLine:=by
 rcases h with h | ⟨o,its,n,hk,hc,hs,hz,r⟩
 ·obtain⟨z,its,r,p⟩:=h.ok I.hok
  exact⟨its,r,p.is,z⟩
 ·refine⟨its.toList,r,⟨o,I.kIn a o hk,hc,n,by simpa using hs⟩,?_⟩
  have e:=r.length
  simp only[Array.length_toList] at e
  omega
theorem Inv.list_inj (I:Inv X pins σ H s) (h:SqL X.K H a xs) (h':SqL X.K H a ys):xs=ys:=by
 obtain⟨its,r,⟨o,n,e,_,_,d⟩,_⟩:=I.list h
 obtain⟨its',r',⟨o',n',e',_,_,d'⟩,_⟩:=I.list h'
 rw[e] at e';cases e'
 rw[d] at d'
 injection d' with d1 _
 have:its=its':=by simpa using congrArg Array.toList d1
 subst this
 exact r.inj r'
theorem Inv.tuple_inj (I:Inv X pins σ H s) (h:SqT X.K H a xs) (h':SqT X.K H a ys):xs=ys:=by
 obtain⟨its,r,⟨o,e,_,n,d⟩,_⟩:=I.tuple h
 obtain⟨its',r',⟨o',e',_,n',d'⟩,_⟩:=I.tuple h'
 rw[e] at e';cases e'
 rw[d] at d'
 injection d' with d1 _
 have:its=its':=by simpa using congrArg Array.toList d1
 subst this
 exact r.inj r'
end
abbrev Cx.wish (X:Cx) (E:Value->Shared->Prop):Cx:={X with xe:=E}
abbrev Cx.nox (X:Cx):Cx:=X.wish fun _ _=>False
theorem Cx.Ok.wish {X:Cx} (ok:X.Ok) (E:Value->Shared->Prop):(X.wish E).Ok:=
 ⟨ok.mod,ok.kind,ok.glob,ok.blt,ok.above,ok.inj,ok.has,ok.cab,ok.hd,ok.gd,ok.frames,ok.stk,ok.exf,ok.bs,ok.bsz,ok.noex,ok.exfs,ok.funs,ok.frf⟩
theorem Cx.Ok.unwish {X:Cx} {E:Value->Shared->Prop} (ok:(X.wish E).Ok):X.Ok:=
 ⟨ok.mod,ok.kind,ok.glob,ok.blt,ok.above,ok.inj,ok.has,ok.cab,ok.hd,ok.gd,ok.frames,ok.stk,ok.exf,ok.bs,ok.bsz,ok.noex,ok.exfs,ok.funs,ok.frf⟩
section
variable {X:Cx} {pins:List (Addr×Obj)} {σ:St} {H:Hp} {s:Shared} {E:Value->Shared->Prop}
theorem Inv.wish (I:Inv X pins σ H s) (E:Value->Shared->Prop):Inv (X.wish E) pins σ H s:=⟨I.ok.wish E,I.os,I.bare,I.base,I.loc,I.cell,I.free,I.freeC,I.pin,I.hok,I.len⟩
theorem Inv.unwish (I:Inv (X.wish E) pins σ H s):Inv X pins σ H s:=⟨I.ok.unwish,I.os,I.bare,I.base,I.loc,I.cell,I.free,I.freeC,I.pin,I.hok,I.len⟩
theorem SP.unwish {D:Ends} {f:Flow} {s':Shared} (h:SP (X.wish E) pins D f s'):SP X pins D f s':=by
 cases f with
 | next=>obtain⟨σ',H',I,q⟩:=h;exact⟨σ',H',I.unwish,q⟩
 | brk=>obtain⟨σ',H',I,q⟩:=h;exact⟨σ',H',I.unwish,q⟩
 | cont=>obtain⟨σ',H',I,q⟩:=h;exact⟨σ',H',I.unwish,q⟩
 | ret u=>obtain⟨v,σ',H',I,r,q⟩:=h;exact⟨v,σ',H',I.unwish,r,q⟩
theorem PSs.nox {st:List Stmt} {t:TS} (h:PSs X.nox st t):PSs X st t:=fun pins s σ H D I hw=>
 wpAny_mono (h pins s σ H D (I.wish _) hw) (fun _ _ q=>q.unwish) fun _ _ z=>False.elim z
end
section
variable {X:Cx} {st:Stmt} {rest:List Stmt} {t u:TS} {e:Expr} {te:TE} {pos:Pos}
theorem Inv.quiet {pins:List (Addr×Obj)} {σ:St} {H:Hp} {s:Shared} (I:Inv X pins σ H s):interactive X.env=false:=by simp[interactive,I.ok.kind]
def tRetN:TS:=fun D _ H=>D.rt .non H
end
abbrev TSet:=V->V->V->Hp->(Hp->Prop)->Prop
noncomputable def PSet (X:Cx) (t:TSet):Prop:=
 ∀(pins:List (Addr×Obj)) (s:Shared) (σ:St) (H:Hp) (o i v:V) (ov iv u:Value) (Q:Hp->Prop),Inv X pins σ H s->RelV o ov->RelV i iv->RelV v u->t o i v H Q->
  wpAny (model X.prog X.w) X.A (setItem ov iv u) (fun _ s'=>∃H',Inv X pins σ H' s'/\Q H') X.xe s
section
variable {X:Cx} {pos:Pos}
end
section
variable {X:Cx} {pos:Pos}
end
structure It where
 go:Nat->Hp->Prop
 yld:Nat->Hp->V->Hp->Prop
 stop:Nat->Hp->Prop
noncomputable def FpOk (X:Cx) (pins:List (Addr×Obj)) (H:Hp) (b:Addr):Prop:=
 H b=none/\b≠X.env.locals/\b∉X.fs/\(b∈X.ex\/X.s₀.heap.objs.size<=b)/\(∀x c,X.env.cells.lookup x=some c->c≠b)/\∀p∈X.pn++pins,p.1≠b
theorem Inv.fpOk {X:Cx} {pins:List (Addr×Obj)} {σ:St} {H H':Hp} {s:Shared} {b:Addr} (I:Inv X pins σ H s) (hb:s.heap.objs.size<=b) (hn:H' b=none):FpOk X pins H' b:=by
 refine⟨hn,Nat.ne_of_gt (Nat.lt_of_lt_of_le I.lt hb),I.nofs hb,.inr (Nat.le_trans I.sz hb),fun x c e z=> ?_,fun p hp z=> ?_⟩
 ·obtain⟨v,q⟩:=I.cell x c e
  exact absurd (Nat.lt_of_lt_of_le q.lt (by rw[z];exact hb)) (Nat.lt_irrefl _)
 ·exact absurd (Nat.lt_of_lt_of_le (Heap.lt_size (I.pin p hp).1) (by rw[z];exact hb)) (Nat.lt_irrefl _)
structure Turn (P:Program) (w:World) (K:PySem.W.Frag) (tg:Expr) (J:It) (fp:List Addr) (it:Addr) (tn:Nat->Heap->Prop):Prop where
 mem:it∈fp
 obj:∀i h,tn i h->∀b∈fp,∃o,h.get? b=some o/\∀v,o.data≠ .cell v
 keep:∀i h h',tn i h->(∀b∈fp,∀o,h.get? b=some o->h'.get? b=some o)->tn i h'
 item:∀(X:Cx),X.prog=P->X.w=w->X.K=K->X.calm=true->∀(i:Nat) (pins:List (Addr×Obj)) (s:Shared) (σ:St) (H:Hp) (E:Value->Shared->Prop),Inv X pins σ H s->(∀b∈fp,FpOk X pins H b)->tn i s.heap->J.go i H->
  wpAny (model P w) X.A (pyNext (.ref it)) (fun r s1=>∃u,r=some u/\
   wpAny (model P w) X.A (letOwnedTupleGo tg (.ref it) u) (fun _ s2=>∃x H',Inv X pins σ H' s2/\RelV x u/\J.yld i H x H'/\tn (i+1) s2.heap/\∀b∈fp,H' b=none) E s1) E s
 done:∀(X:Cx),X.prog=P->X.w=w->X.K=K->X.calm=true->∀(i:Nat) (pins:List (Addr×Obj)) (s:Shared) (σ:St) (H:Hp) (E:Value->Shared->Prop),Inv X pins σ H s->(∀b∈fp,FpOk X pins H b)->tn i s.heap->J.stop i H->
  wpAny (model P w) X.A (pyNext (.ref it)) (fun r s1=>r=none/\Inv X pins σ H s1) E s
 self:∀(A:Around) (i:Nat) (s:Shared) (Q:Value->Shared->Prop) (E:Value->Shared->Prop),tn i s.heap->Q (.ref it) s->wpAny (model P w) A (pyIter (.ref it)) Q E s
abbrev TI:=St->Hp->(It->Hp->Prop)->Prop
noncomputable def PIE (X:Cx) (pins:List (Addr×Obj)) (σ:St) (tg:Expr) (R:It->Hp->Prop) (itv:Value) (s2:Shared):Prop:=
 ∃(it:Addr) (fp:List Addr) (tn:Nat->Heap->Prop) (J:It) (H':Hp),itv= .ref it/\Inv X pins σ H' s2/\Turn X.prog X.w X.K tg J fp it tn/\tn 0 s2.heap/\(∀b∈fp,FpOk X pins H' b)/\R J H'
theorem kYd {M:Model} {A:Around} {E:Value->Shared->Prop} {s:Shared} {tg:Expr} {it:Addr} {u:Value} {o:Obj} {n:String} {vs:Array Value} {Q:Unit->Shared->Prop} (ho:s.heap.get? it=some o) (hc:o.cls= .type n) (hd:o.data= .fields vs)
  (hn:["enumerate","zip","dict_itemiterator","dict_reverseitemiterator","odict_iterator","itertools.zip_longest","itertools.pairwise"].contains n=false) (hQ:Q () s):wpAny M A (letOwnedTupleGo tg (.ref it) u) Q E s:=by
 unfold letOwnedTupleGo
 cases tg<;>first
  | exact wpAny_pure hQ
  | (cases u<;>first
    | exact wpAny_pure hQ
    | (refine wpAny_bind (wpAny_load ho ?_)
       rw[hc,hd]
       show wpAny M A (if (["enumerate","zip","dict_itemiterator","dict_reverseitemiterator","odict_iterator","itertools.zip_longest","itertools.pairwise"].contains n&&vs[0]? == some (rawInt _))=true then _ else _) Q E s
       rw[if_neg (by intro h;rw[hn,Bool.false_and] at h;cases h)]
       exact wpAny_pure hQ))
noncomputable def Itl (K:PySem.W.Frag) (a:Addr):It:=
 ⟨fun i H=>∃xs x,SqL K H a xs/\xs[i]? =some x,fun i H x H'=>H'=H/\∀xs,SqL K H a xs->xs[i]? =some x,fun i H=>∃xs,SqL K H a xs/\xs.length<=i⟩
noncomputable def Itt (K:PySem.W.Frag) (a:Addr):It:=
 ⟨fun i H=>∃xs x,SqT K H a xs/\xs[i]? =some x,fun i H x H'=>H'=H/\∀xs,SqT K H a xs->xs[i]? =some x,fun i H=>∃xs,SqT K H a xs/\xs.length<=i⟩
def Itr (lo:Int) (n:Nat):It:=⟨fun i _=>i<n,fun i H x H'=>H'=H/\x= .int (lo+i),fun i _=>n<=i⟩
theorem kQs {P:Program} {w:World} {K:PySem.W.Frag} {tg:Expr} (a it:Addr):Turn P w K tg (Itl K a) [it] it (fun i h=>h.IsListIter it a i) where
 mem:=by simp
 obj:=fun i h st b hb=>by
  have e:b=it:=by simpa using hb
  subst e
  obtain⟨o,e,c,d⟩:=st
  exact⟨o,e,fun v z=>by rw[d] at z;cases z⟩
 keep:=fun i h h' st k=>st.at fun o e=>k it (by simp) o e
 item:=by
  intro X hP hw hK hc i pins s σ H E I hf st hg
  subst hP hw hK
  obtain⟨xs,x,hq,hx⟩:=hg
  obtain⟨its,rv,p,hz⟩:=I.list hq
  obtain⟨u,hu,ru⟩:=rv.get hx
  obtain⟨f0,f1,f2,f3,f4,f5⟩:=hf it (by simp)
  refine wpAny_pyNext_list_item st p.isList (x:=u) (by simpa using hu) fun h' st' sb=> ?_
  have I1:Inv X pins σ H {s with heap:=h'}:=I.turned (t':=s.toks) (fun b o hb e=>(sb.2 b hb).trans e) f0 f1 f3 f4 f5
  obtain⟨o,e,c,d⟩:=id st'
  exact⟨u,rfl,kYd (s:={s with heap:=h'}) e c d (by decide) ⟨x,H,I1,ru,⟨rfl,fun ys hy=>by rw[I.list_inj hy hq];exact hx⟩,st',fun b hb=>(hf b hb).1⟩⟩
 done:=by
  intro X hP hw hK hc i pins s σ H E I hf st hg
  subst hP hw hK
  obtain⟨xs,hq,hx⟩:=hg
  obtain⟨its,rv,p,hz⟩:=I.list hq
  obtain⟨f0,f1,f2,f3,f4,f5⟩:=hf it (by simp)
  have hl:=rv.length
  exact wpAny_pyNext_list_end (I.ok.hd hc) st p.isList (by simp;omega) fun h' eb=>⟨rfl,I.turned (t':=s.toks) (fun b o hb e=>eb b o hb e) f0 f1 f3 f4 f5⟩
 self:=fun _ _ _ _ _ st h=>wpAny_pyIter_listiter st h
theorem kKx {P:Program} {w:World} {K:PySem.W.Frag} {tg:Expr} (a it:Addr):Turn P w K tg (Itt K a) [it] it (fun i h=>h.IsTupleIter it a i) where
 mem:=by simp
 obj:=fun i h st b hb=>by
  have e:b=it:=by simpa using hb
  subst e
  obtain⟨o,e,c,d⟩:=st
  exact⟨o,e,fun v z=>by rw[d] at z;cases z⟩
 keep:=fun i h h' st k=>st.at fun o e=>k it (by simp) o e
 item:=by
  intro X hP hw hK hc i pins s σ H E I hf st hg
  subst hP hw hK
  obtain⟨xs,x,hq,hx⟩:=hg
  obtain⟨its,rv,p,hz⟩:=I.tuple hq
  obtain⟨u,hu,ru⟩:=rv.get hx
  obtain⟨f0,f1,f2,f3,f4,f5⟩:=hf it (by simp)
  refine wpAny_pyNext_tuple_item st (show s.heap.IsTuple a its.toArray from p) (x:=u) (by simpa using hu) fun h' st' sb=> ?_
  have I1:Inv X pins σ H {s with heap:=h'}:=I.turned (t':=s.toks) (fun b o hb e=>(sb.2 b hb).trans e) f0 f1 f3 f4 f5
  obtain⟨o,e,c,d⟩:=id st'
  exact⟨u,rfl,kYd (s:={s with heap:=h'}) e c d (by decide) ⟨x,H,I1,ru,⟨rfl,fun ys hy=>by rw[I.tuple_inj hy hq];exact hx⟩,st',fun b hb=>(hf b hb).1⟩⟩
 done:=by
  intro X hP hw hK hc i pins s σ H E I hf st hg
  subst hP hw hK
  obtain⟨xs,hq,hx⟩:=hg
  obtain⟨its,rv,p,hz⟩:=I.tuple hq
  obtain⟨f0,f1,f2,f3,f4,f5⟩:=hf it (by simp)
  have hl:=rv.length
  exact wpAny_pyNext_tuple_end (I.ok.hd hc) st (show s.heap.IsTuple a its.toArray from p) (by simp;omega) fun h' eb=>⟨rfl,I.turned (t':=s.toks) (fun b o hb e=>eb b o hb e) f0 f1 f3 f4 f5⟩
 self:=fun _ _ _ _ _ st h=>wpAny_pyIter_tupleiter st h
theorem kKy {P:Program} {w:World} {K:PySem.W.Frag} {tg:Expr} (it:Addr) (lo:Int) (n:Nat):Turn P w K tg (Itr lo n) [it] it (fun i h=>IsRangeIter h it (lo+(i:Nat)*1) ((n:Int)-(i:Nat)) 1) where
 mem:=by simp
 obj:=fun i h st b hb=>by
  have e:b=it:=by simpa using hb
  subst e
  exact⟨_,st,fun v z=>by
   have z':Data.fields _=Data.cell v:=z
   cases z'⟩
 keep:=fun i h h' st k=>k it (by simp) _ st
 item:=by
  intro X hP hw hK hc i pins s σ H E I hf st hg
  subst hP hw hK
  obtain⟨f0,f1,f2,f3,f4,f5⟩:=hf it (by simp)
  have W:=Walks.range (prog:=X.prog) (w:=X.w) (I.ok.hd hc) it lo 1 n
  refine W.item i s _ _ hg st fun v h' tk hv st' kk=> ?_
  obtain⟨t,rfl⟩:=hv
  have I1:Inv X pins σ H {s with heap:=h',toks:=tk}:=I.turned (fun b o hb e=>kk b o (by simpa using hb) e) f0 f1 f3 f4 f5
  refine⟨_,rfl,kYd (s:={s with heap:=h',toks:=tk}) (n:="range_iterator") st' rfl rfl (by decide) ⟨.int (lo+i),H,I1,⟨t,?_⟩,⟨rfl,rfl⟩,st',fun b hb=>(hf b hb).1⟩⟩
  rw[Int.mul_one]
 done:=by
  intro X hP hw hK hc i pins s σ H E I hf st hg
  subst hP hw hK
  obtain⟨f0,f1,f2,f3,f4,f5⟩:=hf it (by simp)
  exact wpAny_pyNext_range_end (I.ok.hd hc) st (by have:n<=i:=hg;omega) fun h' eb=>⟨rfl,I.turned (t':=s.toks) (fun b o hb e=>eb b o hb e) f0 f1 f3 f4 f5⟩
 self:=fun _ _ _ _ _ st h=>wpAny_pyIter_rangeiter st h
section
variable {X:Cx} {tg:Expr}
theorem kKa {pins:List (Addr×Obj)} {σ:St} {H:Hp} {s:Shared} {R:It->Hp->Prop} {E:Value->Shared->Prop} {lo hi:Int} {t u v:Tok} {tk:Nat} (I:Inv X pins σ H s) (h1: -(2^62)<=lo) (h2:lo<2^62) (h3: -(2^62)<=hi) (h4:hi<2^62)
  (q:R (Itr lo (hi-lo).toNat) H):wpAny (model X.prog X.w) X.A (pyIter (.ref s.heap.objs.size)) (PIE X pins σ tg R) E {s with heap:=s.heap.push {cls:= .type "range",data:= .fields #[.int lo t,.int hi u,.int 1 v]},toks:=tk}:=by
 refine wpAny_pyIter_range (IsRange.new ..) (small_one h1 h2 h3 h4) ?_
 have I1:Inv X pins σ H {s with heap:=s.heap.push {cls:= .type "range",data:= .fields #[.int lo t,.int hi u,.int 1 v]},toks:=tk}:=I.kept fun b o e=>Heap.get?_push_of_some _ e
 refine⟨(s.heap.push {cls:= .type "range",data:= .fields #[.int lo t,.int hi u,.int 1 v]}).objs.size,[(s.heap.push {cls:= .type "range",data:= .fields #[.int lo t,.int hi u,.int 1 v]}).objs.size],_,_,H,rfl,
  I1.kept (t':=tk) fun b o e=>Heap.get?_push_of_some _ e,kKy _ lo (hi-lo).toNat,?_,fun b hb=> ?_,q⟩
 ·have e1:lo+((0:Nat):Int)*1=lo:=by simp
  have e2:(((hi-lo).toNat:Nat):Int)-((0:Nat):Int)=Builtin.Range.rangeSize lo hi 1:=by rw[rangeSize_one];split<;>omega
  show IsRangeIter _ _ (lo+((0:Nat):Int)*1) ((((hi-lo).toNat:Nat):Int)-((0:Nat):Int)) 1
  rw[e1,e2]
  exact Heap.get?_push_size _ rfl
 ·have e:b=(s.heap.push {cls:= .type "range",data:= .fields #[.int lo t,.int hi u,.int 1 v]}).objs.size:=by simpa using hb
  subst e
  exact I1.fpOk (Nat.le_refl _) (I1.hok.fresh (Nat.le_refl _))
def jUd (fp:List Addr) (h:Heap):List (Addr×Obj):=fp.filterMap fun b=>(h.get? b).map fun o=>(b,o)
theorem jQ9 {fp:List Addr} {h:Heap} {b:Addr} {o:Obj} (hb:b∈fp) (e:h.get? b=some o):(b,o)∈jUd fp h:=List.mem_filterMap.mpr ⟨b,hb,by rw[e];rfl⟩
theorem kUp {fp:List Addr} {h:Heap} {p:Addr×Obj} (hp:p∈jUd fp h):p.1∈fp/\h.get? p.1=some p.2:=by
 obtain⟨b,hb,e⟩:=List.mem_filterMap.mp hp
 cases q:h.get? b with
 | none=>rw[q] at e;cases e
 | some o=>
  rw[q] at e
  have e':(b,o)=p:=Option.some.inj e
  subst e'
  exact⟨hb,q⟩
theorem Inv.pinned {pins:List (Addr×Obj)} {σ:St} {H:Hp} {s:Shared} {fp:List Addr} (I:Inv X pins σ H s) (hf:∀b∈fp,FpOk X pins H b) (ho:∀b∈fp,∃o,s.heap.get? b=some o/\∀v,o.data≠ .cell v):Inv X (pins++jUd fp s.heap) σ H s:=
 I.pins_of fun p hp=>(List.mem_append.mp hp).elim (fun z=>I.pin p (List.mem_append_right _ z)) fun z=>by
  obtain⟨hb,e⟩:=kUp z
  obtain⟨f0,f1,f2,_⟩:=hf p.1 hb
  obtain⟨o,e',d⟩:=ho p.1 hb
  rw[e] at e';cases e'
  exact⟨e,f0,f1,f2,d⟩
theorem Inv.unpinned {pins pl:List (Addr×Obj)} {σ:St} {H:Hp} {s:Shared} (I:Inv X (pins++pl) σ H s):Inv X pins σ H s:=I.pins_of fun p hp=>I.pin p (List.mem_append_right _ (List.mem_append_left _ hp))
end
abbrev R2:=V->V->Hp->VK->Prop
noncomputable def OpR (X:Cx) (f:Value->Value->Sem Value) (r:R2):Prop:=
 ∀(pins:List (Addr×Obj)) (s:Shared) (σ:St) (H:Hp) (x y:V) (v u:Value) (Q:VK),Inv X pins σ H s->RelV x v->RelV y u->r x y H Q->
  wpAny (model X.prog X.w) X.A (f v u) (EP X pins σ Q) X.xe s
noncomputable def UnR (X:Cx) (f:Value->Sem Value) (r:V->Hp->VK->Prop):Prop:=
 ∀(pins:List (Addr×Obj)) (s:Shared) (σ:St) (H:Hp) (x:V) (v:Value) (Q:VK),Inv X pins σ H s->RelV x v->r x H Q->
  wpAny (model X.prog X.w) X.A (f v) (EP X pins σ Q) X.xe s
noncomputable def jZw (X:Cx) (f:Value) (r:List V->Hp->VK->Prop):Prop:=
 ∀(pins:List (Addr×Obj)) (s:Shared) (σ:St) (H:Hp) (xs:List V) (us:List Value) (Q:VK),Inv X pins σ H s->Vals xs us->r xs H Q->
  wpAny (model X.prog X.w) X.A (call f us) (EP X pins σ Q) X.xe s
noncomputable def TruR (X:Cx) (r:V->Hp->(Bool->Hp->Prop)->Prop):Prop:=
 ∀(pins:List (Addr×Obj)) (s:Shared) (σ:St) (H:Hp) (x:V) (v:Value) (Q:Bool->Hp->Prop),Inv X pins σ H s->RelV x v->r x H Q->
  wpAny (model X.prog X.w) X.A (truthy v) (TP X pins σ Q) X.xe s
def rI (C:Int->Int->Prop) (g:Int->Int->V):R2:=fun x y H Q=>∃i j,x= .int i/\y= .int j/\C i j/\Q (g i j) H
def rI0 (g:Int->Int->V):R2:=fun x y H Q=>∃i j,x= .int i/\y= .int j/\Q (g i j) H
def rU (g:Int->V):V->Hp->VK->Prop:=fun x H Q=>∃i,x= .int i/\Q (g i) H
section
variable {X:Cx} {a b c:Expr} {ta tb tc:TE} {pos:Pos}
theorem opI {f:Value->Value->Sem Value} {C:Int->Int->Prop} {g:Int->Int->Int}
  (rule:∀(i j:Int) (t u:Tok) (s:Shared) (Q:Value->Shared->Prop) (E:Value->Shared->Prop),C i j->Q (.int (g i j) s.toks) {s with toks:=s.toks+1}->wpAny (model X.prog X.w) X.A (f (.int i t) (.int j u)) Q E s):
  OpR X f (rI C fun i j=> .int (g i j)):=by
 intro pins s σ H x y v u Q I rx ry h
 obtain⟨i,j,rfl,rfl,hc,q⟩:=h
 obtain⟨t,rfl⟩:=rx
 obtain⟨t',rfl⟩:=ry
 exact rule i j t t' s _ _ hc ⟨.int (g i j),H,I.tok _,⟨_,rfl⟩,q⟩
theorem opI0 {f:Value->Value->Sem Value} {g:Int->Int->Int}
  (rule:∀(i j:Int) (t u:Tok) (s:Shared) (Q:Value->Shared->Prop) (E:Value->Shared->Prop),Q (.int (g i j) s.toks) {s with toks:=s.toks+1}->wpAny (model X.prog X.w) X.A (f (.int i t) (.int j u)) Q E s):
  OpR X f (rI0 fun i j=> .int (g i j)):=by
 intro pins s σ H x y v u Q I rx ry h
 obtain⟨i,j,rfl,rfl,q⟩:=h
 obtain⟨t,rfl⟩:=rx
 obtain⟨t',rfl⟩:=ry
 exact rule i j t t' s _ _ ⟨.int (g i j),H,I.tok _,⟨_,rfl⟩,q⟩
theorem opB0 {f:Value->Value->Sem Value} {g:Int->Int->Bool}
  (rule:∀(i j:Int) (t u:Tok) (s:Shared) (Q:Value->Shared->Prop) (E:Value->Shared->Prop),Q (.bool (g i j)) s->wpAny (model X.prog X.w) X.A (f (.int i t) (.int j u)) Q E s):
  OpR X f (rI0 fun i j=> .bl (g i j)):=by
 intro pins s σ H x y v u Q I rx ry h
 obtain⟨i,j,rfl,rfl,q⟩:=h
 obtain⟨t,rfl⟩:=rx
 obtain⟨t',rfl⟩:=ry
 exact rule i j t t' s _ _ ⟨.bl (g i j),H,I,rfl,q⟩
def CDiv (i j:Int):Prop:=0<j/\j<1073741824
def CPow (i j:Int):Prop:=0<=j/\j<=1000000/\i.natAbs<2^64
def CMul (i j:Int):Prop:=(-(2^64)<i/\i<2^64)\/(-(2^64)<j/\j<2^64)
theorem CMul.ok {i j:Int} (h:CMul i j):IntMulOk i j:=by
 rcases h with ⟨h1,h2⟩ | ⟨h1,h2⟩
 ·exact .of_left (intBits_le_64 h1 h2)
 ·exact .of_right (intBits_le_64 h1 h2)
theorem op_add:OpR X (binaryOp .Add) (rI0 fun i j=> .int (i+j)):=opI0 fun _ _ _ _ _ _ _ q=>add_int q
theorem op_sub:OpR X (binaryOp .Sub) (rI0 fun i j=> .int (i-j)):=opI0 fun _ _ _ _ _ _ _ q=>sub_int q
theorem op_mul:OpR X (binaryOp .Mult) (rI CMul fun i j=> .int (i*j)):=opI fun _ _ _ _ _ _ _ hc q=>mul_int q hc.ok
theorem kZ0:OpR X (binaryOp .FloorDiv) (rI CDiv fun i j=> .int (i / j)):=opI fun i j _ _ _ _ _ hc q=>by
 have h1:(0:Int)<j:=hc.1
 have h2:j<1073741824:=hc.2
 exact floordiv_int (by omega) (by rw[Int.fdiv_eq_ediv_of_nonneg i (by omega)];exact q) (.inl (PyProof.noPylong_small (by omega)))
theorem op_mod:OpR X (binaryOp .Mod) (rI (fun _ j=>0<j) fun i j=> .int (i%j)):=opI fun i j _ _ _ _ _ hc q=>by
 have h1:(0:Int)<j:=hc
 exact mod_int' (by omega) (by rw[Int.fmod_eq_emod_of_nonneg i (by omega)];exact q)
theorem op_pow:OpR X (binaryOp .Pow) (rI CPow fun i j=> .int (i^j.toNat)):=opI fun _ _ _ _ _ _ _ hc q=>pow_int_small hc.1 hc.2.1 hc.2.2 q
theorem unI {f:Value->Sem Value} {g:Int->Int}
  (rule:∀(i:Int) (t:Tok) (s:Shared) (Q:Value->Shared->Prop) (E:Value->Shared->Prop),Q (.int (g i) s.toks) {s with toks:=s.toks+1}->wpAny (model X.prog X.w) X.A (f (.int i t)) Q E s):
  UnR X f (rU fun i=> .int (g i)):=by
 intro pins s σ H x v Q I rx h
 obtain⟨i,rfl,q⟩:=h
 obtain⟨t,rfl⟩:=rx
 exact rule i t s _ _ ⟨.int (g i),H,I.tok _,⟨_,rfl⟩,q⟩
theorem un_neg:UnR X (unaryOp .USub) (rU fun i=> .int (-i)):=unI fun _ _ _ _ _ q=>neg_int q
end
section
variable {X:Cx} {a b c:Expr} {ta tb tc:TE} {pos:Pos}
theorem op_lt:OpR X (compareOp .Lt) (rI0 fun i j=> .bl (decide (i<j))):=opB0 fun _ _ _ _ _ _ _ q=>lt_int q
theorem op_le:OpR X (compareOp .LtE) (rI0 fun i j=> .bl (decide (i<=j))):=opB0 fun _ _ _ _ _ _ _ q=>le_int q
theorem op_gt:OpR X (compareOp .Gt) (rI0 fun i j=> .bl (decide (j<i))):=opB0 fun _ _ _ _ _ _ _ q=>gt_int q
theorem op_ge:OpR X (compareOp .GtE) (rI0 fun i j=> .bl (decide (j<=i))):=opB0 fun _ _ _ _ _ _ _ q=>ge_int q
theorem nomark (b:Expr) {op:CmpOp} (h:op≠ .In:=by decide) (h2:op≠ .NotIn:=by decide):behindInMarks op b=false:=by
 have e1:(op == CmpOp.In)=false:=by cases op<;>first | rfl | exact absurd rfl h
 have e2:(op == CmpOp.NotIn)=false:=by cases op<;>first | rfl | exact absurd rfl h2
 cases b<;>simp[behindInMarks,e1,e2]
noncomputable def TruV (K:PySem.W.Frag) (x:V) (H:Hp) (k:Bool):Prop:=
 match x with
 | .non=>k=false
 | .bl b=>k=b
 | .int i=>k=(i != 0)
 | .str y=>y.length<=sizeLine/\k=((y.length:Int) != 0)
 | .byt y=>y.size<=sizeLine/\k=((y.size:Int) != 0)
 | .ref p=>(∃xs,SqL K H p xs/\k= !xs.isEmpty)\/(∃xs,SqT K H p xs/\k= !xs.isEmpty)\/∃kvs,H p=some (.dK kvs)/\k= !kvs.isEmpty
 | _=>False
theorem kQh {κ:Type} {kvs:List (κ×V)} {vs:List (κ×Value)} (r:KV kvs vs):(!vs.isEmpty)= !kvs.isEmpty:=by
 cases r<;>rfl
theorem jXy {xs:List V} {its:List Value} (r:Vals xs its):(!its.toArray.isEmpty)= !xs.isEmpty:=by
 cases r<;>simp
theorem jXw:(sizeLine:Nat)<2^63:=by rw[sizeLine_eq];decide
theorem tru_ok:TruR X (fun x H Q=>∃k,TruV X.K x H k/\Q k H):=by
 intro pins s σ H x v Q I rx h
 obtain⟨k,e,q⟩:=h
 have hl:=jXw
 have hs:sizeLine=16777216:=sizeLine_eq
 cases x with
 | non=>
  cases rx
  have e':k=false:=e
  subst e'
  exact truthy_none ⟨H,I,q⟩
 | bl b=>
  cases rx
  have e':k=b:=e
  subst e'
  exact wpAny_truthy_bool ⟨H,I,q⟩
 | int i=>
  obtain⟨t,rfl⟩:=rx
  have e':k=(i != 0):=e
  subst e'
  exact PySem.P.truthy_int ⟨H,I,q⟩
 | str y=>
  obtain⟨t,rfl⟩:=rx
  obtain⟨hy,e'⟩:y.length<=sizeLine/\k=((y.length:Int) != 0):=e
  subst e'
  exact PySem.P.truthy_str (by omega) ⟨H,I.tok _,q⟩
 | byt y=>
  obtain⟨t,rfl⟩:=rx
  obtain⟨hy,e'⟩:y.size<=sizeLine/\k=((y.size:Int) != 0):=e
  subst e'
  exact PySem.W.truthy_bytes (by omega) ⟨H,I.tok _,q⟩
 | ref p=>
  cases rx
  have e':(∃xs,SqL X.K H p xs/\k= !xs.isEmpty)\/(∃xs,SqT X.K H p xs/\k= !xs.isEmpty)\/∃kvs,H p=some (.dK kvs)/\k= !kvs.isEmpty:=e
  rcases e' with ⟨xs,hx,e'⟩ | ⟨xs,hx,e'⟩ | ⟨kvs,hx,e'⟩
  ·subst e'
   obtain⟨its,r,pl,hz⟩:=I.list hx
   have hlen:=r.length
   exact wpAny_truthy_list pl.isList (by simp only[List.size_toArray];omega) ⟨H,I.tok _,by rw[jXy r];exact q⟩
  ·subst e'
   obtain⟨its,r,pl,hz⟩:=I.tuple hx
   have hlen:=r.length
   exact truthy_tuple pl (by simp only[List.size_toArray];omega) ⟨H,I.tok _,by rw[jXy r];exact q⟩
  ·subst e'
   obtain⟨hz,hS,vs,r,m⟩:kvs.length<=sizeLine/\(p == sysModules)=false/\∃vs,KV kvs vs/\s.heap.DictOf (jJ9 X.prog X.w) p vs:=I.hok p _ hx
   have hlen:kvs.length=vs.length:=Paired.length r
   exact wpAny_truthy_dict hS m (by omega) ⟨H,I.tok _,by rw[kQh r];exact q⟩
 | _=>exact (show False from e).elim
theorem kKw {x:V} {us:List Value} (r:Vals [x] us):∃u,us=[u]/\RelV x u:=by
 cases r with
 | cons r1 r2=>cases r2;exact⟨_,rfl,r1⟩
theorem vals2 {x y:V} {us:List Value} (r:Vals [x,y] us):∃u w',us=[u,w']/\RelV x u/\RelV y w':=by
 cases r with
 | cons r1 r2=>
  cases r2 with
  | cons r3 r4=>cases r4;exact⟨_,_,rfl,r1,r3⟩
theorem kYo:jZw X (.builtin "abs") (fun xs H Q=>∃i,xs=[.int i]/\Q (.int (if i<0 then -i else i)) H):=by
 intro pins s σ H xs us Q I r h
 obtain⟨i,rfl,q⟩:=h
 obtain⟨u,rfl,t,rfl⟩:=kKw r
 exact call_abs_int fun u tk=>⟨.int (if i<0 then -i else i),H,I.tok _,⟨_,rfl⟩,q⟩
theorem kVp (hc:X.calm=true):jZw X (.builtin "min") (fun xs H Q=>∃i j,xs=[.int i,.int j]/\Q (.int (if j<i then j else i)) H):=by
 intro pins s σ H xs us Q I r h
 obtain⟨i,j,rfl,q⟩:=h
 obtain⟨u,w',rfl,⟨t,rfl⟩,⟨t',rfl⟩⟩:=vals2 r
 refine min_two_ints (I.ok.hd hc) fun h' tk k=>⟨_,H,I.kept k,?_,q⟩
 by_cases hj:j<i
 ·rw[if_pos hj,if_pos hj];exact⟨_,rfl⟩
 ·rw[if_neg hj,if_neg hj];exact⟨_,rfl⟩
theorem kVq:jZw X (.type "int") (fun xs H Q=>(∃i,xs=[.int i]/\Q (.int i) H)\/∃k,xs=[.bl k]/\Q (.int (if k then 1 else 0)) H):=by
 intro pins s σ H xs us Q I r h
 rcases h with ⟨i,rfl,q⟩ | ⟨k,rfl,q⟩
 ·obtain⟨u,rfl,t,rfl⟩:=kKw r
  exact call_int_int ⟨.int i,H,I,⟨_,rfl⟩,q⟩
 ·obtain⟨u,rfl,r1⟩:=kKw r
  cases r1
  exact call_int_bool ⟨.int (if k then 1 else 0),H,I.tok _,⟨_,rfl⟩,q⟩
theorem kJy:jZw X (.builtin "divmod") (fun xs H Q=>∃i j,xs=[.int i,.int j]/\CDiv i j/\∀p,H p=none->Q (.ref p) (upd H p (.tup [.int (i / j),.int (i%j)]))):=by
 intro pins s σ H xs us Q I r h
 obtain⟨i,j,rfl,⟨h1,h2⟩,q⟩:=h
 obtain⟨u,w',rfl,⟨t,rfl⟩,⟨t',rfl⟩⟩:=vals2 r
 refine divmod_int (by omega) ?_ (.inl (PyProof.noPylong_small (by omega)))
 rw[Int.fdiv_eq_ediv_of_nonneg i (by omega),Int.fmod_eq_emod_of_nonneg i (by omega)]
 have hn:H s.heap.objs.size=none:=I.hok.fresh (Nat.le_refl _)
 refine⟨.ref s.heap.objs.size,_,?_,rfl,q _ hn⟩
 refine I.laid (fun b o e=>Heap.get?_push_of_some _ e) (Nat.le_refl _) ⟨by simp only[List.length_cons,List.length_nil];rw[sizeLine_eq];decide,[.int (i / j) s.toks,.int (i%j) (s.toks+1)],.cons ⟨_,rfl⟩ (.cons ⟨_,rfl⟩ .nil),?_⟩
 exact⟨_,Heap.get?_push_size s.heap rfl,rfl,0,rfl,rfl⟩
end
section
variable {prog:Program} {w:World} {A:Around} {E:Value->Shared->Prop} {s:Shared} {K:PySem.W.Frag} {x dx C f:Addr} {mA:Str->Option Value} {name:Str} {v:Value}
end
theorem RelO.some_of {v:V} {o:Option Value} (r:RelO (some v) o):∃u,o=some u/\RelV v u:=by
 cases o with
 | none=>exact (show False from r).elim
 | some u=>exact⟨u,rfl,r⟩
section
variable {P:Program} {w:World} {H H':Hp} {h h':Heap} {a C dx:Addr} {fs fs':List (Str×V)}
end
section
variable {X:Cx} {pins:List (Addr×Obj)} {σ:St} {H:Hp} {s:Shared} {a C dx:Addr} {fs:List (Str×V)} {f:Str} {v:V} {A:Around} {E:Value->Shared->Prop}
end
section
variable {X:Cx} {o e value:Expr} {f:Str} {pos pos' tpos:Pos} {ta tv:TE}
end
section
variable {X:Cx} {pins:List (Addr×Obj)} {σ:St} {H:Hp} {s:Shared} {A:Around} {E:Value->Shared->Prop} {Q:Value->Shared->Prop} {c:Value} {b:Bool}
end
structure Room (k:Nat) (A:Around):Prop where
 hd:A.handled=none
 gd:A.guards=some []
 dp:A.depth+3*k+5<recursionLimit
 un:A.units+16*k+200<cLine
theorem Room.mono {j k:Nat} {A:Around} (r:Room k A) (h:j<=k):Room j A:=⟨r.hd,r.gd,by have:=r.dp;omega,by have:=r.un;omega⟩
theorem Room.deeper {k:Nat} {A:Around} (r:Room (k+1) A) (env:Env):Room k (A.deeper env):=
 ⟨r.hd,r.gd,by have:=r.dp;show A.depth+1+3*k+5<_;omega,by have:=r.un;show A.units+3+16*k+200<_;omega⟩
theorem Room.depth {k:Nat} {A:Around} (r:Room k A):A.depth<recursionLimit:=by have:=r.dp;omega
theorem Room.units {k:Nat} {A:Around} (r:Room k A):A.units+64<cLine:=by have:=r.un;omega
section
variable {X:Cx} {e:Expr} {es:List Expr} {te:TE} {t:TA} {pos:Pos}
end
abbrev Sp:=List V->Hp->VK->XK->Prop
abbrev CXT:=List Env->Hp->Shared->XK->Value->Shared->Prop
structure Env0 (P:Program) (w:World) (K:PySem.W.Frag) (mg:Str->Option Value) (base:Heap) (A:Around) (outer:List Env) (s:Shared) (H:Hp):Prop where
 frames:A.frames=some outer
 mod:Mod K mg base
 bs:∀b o,base.get? b=some o->s.heap.get? b=some o/\H b=none
 bsz:base.objs.size<=s.heap.objs.size
 funs:s.heap.FunFrames base outer
 frf:∀b∈frs outer,H b=none
 hok:HOk P w H s.heap
 bare:AllBare s.gens
noncomputable def CE (outer:List Env) (P:Program) (w:World) (H:Hp) (s:Shared) (Q:VK) (u:Value) (s':Shared):Prop:=
 ∃v H',s'.os=s.os/\AllBare s'.gens/\Un (frs outer) [] H H' s.heap s'.heap/\HOk P w H' s'.heap/\RelV v u/\Q v H'
noncomputable def CR (CX:CXT) (outer:List Env) (P:Program) (w:World) (H:Hp) (s:Shared) (Q:VK) (E:XK) (r:Result) (s':Shared):Prop:=
 match r with
 | .ok (.ret u)=>CE outer P w H s Q u s'
 | .ok _=>False
 | .error e=>CX outer H s E e s'
structure FnOk (P:Program) (w:World) (K:PySem.W.Frag) (mg:Str->Option Value) (base:Heap) (CX:CXT) (k:Nat) (f:Addr) (fd:FuncData) (ps:List Str) (sp:Sp):Prop where
 len:∀vs H Q E,sp vs H Q E->vs.length=ps.length
 run:∀(A:Around) (outer:List Env) (s:Shared) (H:Hp) (args:Args) (us:List Value) (vs:List V) (Q:VK) (E:XK),Room k A->Env0 P w K mg base A outer s H->BindsTo s fd args (ps.zip us)->Vals vs us->sp vs H Q E->
  codeAny (model P w) A (.call (.ref f) args) (CR CX outer P w H s Q E) s
section
variable {X:Cx} {pins:List (Addr×Obj)} {σ:St} {H:Hp} {s s':Shared}
theorem Inv.env0 (I:Inv X pins σ H s):Env0 X.prog X.w X.K X.mg X.base X.A X.stack s H:=
 ⟨I.ok.frames,I.ok.mod,I.bs,Nat.le_trans I.ok.bsz I.sz,I.stack,I.stkFree,I.hok,I.bare⟩
theorem Inv.after {Q:VK} {u:Value} (I:Inv X pins σ H s) (h:CE X.stack X.prog X.w H s Q u s'):EP X pins σ Q u s':=by
 obtain⟨v,H',os,bare,un,hok,r,q⟩:=h
 obtain⟨hh,g,d,t,os'⟩:=s'
 obtain rfl:os'=s.os:=os
 exact⟨v,H',I.call (h':=hh) (g':=g) (d':=d) (t':=t) (ch:=[]) un hok bare (fun b z=>absurd z (by simp)),r,q⟩
end
noncomputable def Binds (K:PySem.W.Frag) (fd:FuncData) (ps:List Str) (ds:List Value):Prop:=
 ∀(s:Shared) (us:List Value),K.In s.heap->(us++ds).length=ps.length->BindsTo s fd ⟨us,[]⟩ (ps.zip (us++ds))
theorem Binds.all {K:PySem.W.Frag} {fd:FuncData} {ps:List Str} (h:∀us:List Value,us.length=ps.length->bindArgs fd ⟨us,[]⟩=pure (ps.zip us)):Binds K fd ps []:=fun s us _ hl=>by
 rw[List.append_nil] at hl ⊢
 exact .of_eq (h us hl)
def kZk (CX:CXT) (X:Cx) (E:XK):Prop:=∀(pins:List (Addr×Obj)) (σ:St) (H:Hp) (s:Shared) (e:Value) (s':Shared),Inv X pins σ H s->CX X.stack H s E e s'->X.xe e s'
section
variable {X:Cx} {CX:CXT} {k:Nat} {f C:Addr} {fd:FuncData} {ps:List Str} {sp:Sp} {dvs:List V} {ds:List Value} {E:XK} {x m:Str} {p pos apos:Pos} {e o:Expr} {es:List Expr} {ta:TE} {t:TA}
theorem run_fn {pins:List (Addr×Obj)} {σ:St} {H:Hp} {s:Shared} {Q:VK} {us:List Value} {vs:List V} (F:FnOk X.prog X.w X.K X.mg X.base CX k f fd ps sp) (hr:Room k X.A) (hb:Binds X.K fd ps ds) (hd:Vals dvs ds) (hx:kZk CX X E)
  (I:Inv X pins σ H s) (r:Vals vs us) (h:sp (vs++dvs) H Q E):wpAny (model X.prog X.w) X.A (call (.ref f) us) (EP X pins σ Q) X.xe s:=by
 have r2:Vals (vs++dvs) (us++ds):=r.append hd
 have hl:(us++ds).length=ps.length:=by rw[<-r2.length];exact F.len _ _ _ _ h
 refine wpAny_call (codeAny_mono (F.run X.A X.stack s H ⟨us,[]⟩ (us++ds) (vs++dvs) Q E hr I.env0 (hb s us I.kIn hl) r2 h) fun r s' hq=> ?_)
 cases r with
 | error e=>exact hx pins σ H s e s' I hq
 | ok fl=>
  cases fl with
  | ret u=>exact I.after hq
  | next=>exact False.elim hq
  | brk=>exact False.elim hq
  | cont=>exact False.elim hq
end
section
variable {X:Cx} {CX:CXT} {k:Nat} {f C:Addr} {fd:FuncData} {ps ks:List Str} {sp:Sp} {E:XK} {x m:Str} {p pos apos kpos:Pos} {e o:Expr} {es:List Expr} {kws:List Keyword} {te ta:TE} {t tk:TA} {nm:Option Str}
variable {g:List Value->List Value->List Value} {gV:List V->List V->List V}
end
structure FnScope (N P:List Str) (sc:Scope):Prop where
 kind:sc.kind= .function
 co:sc.isCoroutine=false
 gen:sc.isGenerator=false
 nd:N.Nodup
 pre:N.take P.length=P
 par:∀x∈P,sc.names.lookup x=some .local\/sc.names.lookup x=some .cell
 nofree:∀y∈sc.names,y.2≠ .free
theorem jZp {kindOf:Str->Option NameKind} {x:Str}:∀ {binds:List (Str×Value)} {m:Str->Option Value},(∀v,(x,v)∉binds)->bindL kindOf binds m x=m x
 | [],_,_=>rfl
 | (n,v)::r,m,h=>by
  unfold bindL
  rw[jZp fun w hw=>h w (List.mem_cons_of_mem _ hw)]
  split
  ·have:x≠n:=by rintro rfl;exact h v List.mem_cons_self
   simp[this]
  ·rfl
theorem jZr {kindOf:Str->Option NameKind} {x:Str}:∀ {binds:List (Str×Value)} {m:Str->Option Value},(∀v,(x,v)∉binds)->bindC kindOf binds m x=m x
 | [],_,_=>rfl
 | (n,v)::r,m,h=>by
  unfold bindC
  rw[jZr fun w hw=>h w (List.mem_cons_of_mem _ hw)]
  split
  ·rfl
  ·have:x≠n:=by rintro rfl;exact h v List.mem_cons_self
   simp[this]
theorem jZq {kindOf:Str->Option NameKind} {x:Str} {v:Value}:∀ {P:List Str} {vs:List Value} {i:Nat} {m:Str->Option Value},P.Nodup->P[i]? =some x->vs[i]? =some v->kindOf x=some .local->
  bindL kindOf (P.zip vs) m x=some v
 | [],_,_,_,_,h,_,_=>by simp at h
 | _::_,[],_,_,_,_,h,_=>by simp at h
 | p::P,w::vs,0,m,nd,h1,h2,hk=>by
  simp at h1 h2;subst h1;subst h2
  show bindL kindOf ((p,w)::P.zip vs) m p=_
  unfold bindL
  rw[jZp fun v hv=>(List.nodup_cons.mp nd).1 (List.of_mem_zip hv).1,if_pos hk]
  simp
 | p::P,w::vs,i+1,m,nd,h1,h2,hk=>by
  show bindL kindOf ((p,w)::P.zip vs) m x=_
  unfold bindL
  exact jZq (i:=i) (List.nodup_cons.mp nd).2 (by simpa using h1) (by simpa using h2) hk
theorem jZs {kindOf:Str->Option NameKind} {x:Str} {v:Value}:∀ {P:List Str} {vs:List Value} {i:Nat} {m:Str->Option Value},P.Nodup->P[i]? =some x->vs[i]? =some v->kindOf x≠some .local->
  bindC kindOf (P.zip vs) m x=some v
 | [],_,_,_,_,h,_,_=>by simp at h
 | _::_,[],_,_,_,_,h,_=>by simp at h
 | p::P,w::vs,0,m,nd,h1,h2,hk=>by
  simp at h1 h2;subst h1;subst h2
  show bindC kindOf ((p,w)::P.zip vs) m p=_
  unfold bindC
  rw[jZr fun v hv=>(List.nodup_cons.mp nd).1 (List.of_mem_zip hv).1,if_neg hk]
  simp
 | p::P,w::vs,i+1,m,nd,h1,h2,hk=>by
  show bindC kindOf ((p,w)::P.zip vs) m x=_
  unfold bindC
  exact jZs (i:=i) (List.nodup_cons.mp nd).2 (by simpa using h1) (by simpa using h2) hk
def start (N:List Str) (vs:List V):St:=vs.map some++List.replicate (N.length-vs.length) none
noncomputable def cxOf (CX:CXT) (P:Program) (w:World) (K:PySem.W.Frag) (mg:Str->Option Value) (base:Heap) (N:List Str) (qual:Str) (scope:Scope) (f:Addr) (cd:Value) (A:Around) (outer:List Env) (s:Shared) (H:Hp) (E:XK):Cx where
 prog:=P
 w:=w
 K:=K
 mg:=mg
 base:=base
 A:=A.deeper (envOfC qual scope s.heap.objs.size f cd)
 N:=N
 s₀:=s
 H₀:=H
 env:=envOfC qual scope s.heap.objs.size f cd
 outer:=outer
 stack:=envOfC qual scope s.heap.objs.size f cd::outer
 ex:=[]
 calm:=true
 fn:=fun _=>true
 pn:=[]
 xe:=fun e s'=>wpAny (model P w) (A.deeper (envOfC qual scope s.heap.objs.size f cd)) (leaving (envOfC qual scope s.heap.objs.size f cd) e) (fun _ s''=>CX outer H s E e s'') (fun e' s''=>CX outer H s E e' s'') s'
theorem kKt {sc:Scope} {n:Nat} {x:Str} (h:sc.names.lookup x=some .cell):∃c,(cellsFrom n sc.names []).lookup x=some c:=by
 have q:=PySem.W.cellsFrom_some sc.names n [] (.inl h)
 exact Option.isSome_iff_exists.mp q
theorem kUz {CX:CXT} {P:Program} {w:World} {K:PySem.W.Frag} {mg:Str->Option Value} {base:Heap} {N ps:List Str} {qual:Str} {scope:Scope} {f:Addr} {cd:Value} {A:Around} {outer:List Env} {s s1:Shared} {H:Hp} {E:XK} {us:List Value} {vs:List V}
  (S:FnScope N ps scope) (hd:A.handled=none/\A.guards=some []) (e0:Env0 P w K mg base A outer s H) (hl:vs.length=ps.length) (r:Vals vs us)
  (x:InCallC s s.heap.objs.size (bindL (envOfC qual scope s.heap.objs.size f cd).kindOf (ps.zip us) fun _=>none) (cellsFrom (s.heap.objs.size+1) scope.names []) (bindC (envOfC qual scope s.heap.objs.size f cd).kindOf (ps.zip us) fun _=>none) s1):
  Inv (cxOf CX P w K mg base N qual scope f cd A outer s H E) [] (start N vs) H s1:=by
 have hpl:ps.length<=N.length:=by have:=congrArg List.length S.pre;rw[List.length_take] at this;omega
 obtain⟨h1,tk,rfl,hk⟩:=x.done
 have noA:∀b:Addr,b∉(cxOf CX P w K mg base N qual scope f cd A outer s H E).ex:=fun b z=>absurd (show b∈([]:List Addr) from z) (by simp)
 refine⟨⟨e0.mod,S.kind,rfl,rfl,Nat.le_refl _,fun y z c h1 h2=> ?_,fun y hy=> ?_,fun y c _ h=> ?_,fun _=>hd.1,fun _=>hd.2,Around.frames_deeper e0.frames,.inr ⟨rfl,rfl⟩,fun b z=>absurd z (noA b),e0.bs,e0.bsz,fun b _ _=>noA b,fun b z=>absurd z (noA b),e0.funs,e0.frf⟩,
  rfl,e0.bare,Un.kept hk,⟨_,x.toInCall.ns,fun i y v h1 h2 h3=> ?_⟩,fun y c h=>⟨_,x.cell y c h⟩,e0.hok.fresh (Nat.le_refl _),fun y c h=> ?_,fun p hp=>absurd (show p∈([]:List (Addr×Obj)) from hp) (by simp),e0.hok.kept hk,?_⟩
 ·exact name_of_addr x.apart (PySem.mem_of_lookup h1) (PySem.mem_of_lookup h2)
 ·have hy:scope.names.lookup y=some .cell\/scope.names.lookup y=some .free:=hy
  rcases hy with hy | hy
  ·exact kKt hy
  ·exact absurd rfl (S.nofree _ (PySem.mem_of_lookup hy))
 ·exact Nat.le_of_lt (x.above y c (PySem.mem_of_lookup h))
 ·have hi:i<vs.length:=by
   unfold start at h2
   by_cases hi:i<vs.length
   ·exact hi
   ·rw[List.getElem?_append_right (by simpa using hi)] at h2
    rw[List.getElem?_replicate] at h2
    split at h2<;>cases h2
  have ha:vs[i]? =some v:=by
   unfold start at h2
   rw[List.getElem?_append_left (by simpa using hi),List.getElem?_map] at h2
   cases e:vs[i]? with
   | none=>rw[e] at h2;cases h2
   | some a=>rw[e] at h2;cases h2;rfl
  obtain⟨u,hu,rv⟩:=r.get ha
  have hp:ps[i]? =some y:=by
   rw[<-S.pre,List.getElem?_take_of_lt (by omega)];exact h1
  have ndP:ps.Nodup:=by rw[<-S.pre];exact S.nd.sublist (List.take_sublist _ _)
  refine⟨u,rv,?_⟩
  rcases S.par y (List.mem_of_getElem? hp) with k | k
  ·exact .inl ⟨k,jZq ndP hp hu k⟩
  ·obtain⟨c,e⟩:=kKt (n:=s.heap.objs.size+1) k
   refine .inr ⟨.inl k,c,e,?_⟩
   have q:=x.cell y c e
   rw[jZs ndP hp hu (by show scope.names.lookup y≠_;rw[k];decide)] at q
   exact q
 ·exact e0.hok.fresh (Nat.le_of_lt (x.above y c (PySem.mem_of_lookup h)))
 ·unfold start
  show _=N.length
  rw[List.length_append,List.length_map,List.length_replicate]
  omega
theorem fn_of {CX:CXT} {P:Program} {w:World} {K:PySem.W.Frag} {mg:Str->Option Value} {base:Heap} {k:Nat} {f:Addr} {name qual:Str} {params:Arguments} {body:List Stmt} {scope:Scope} {dV kV doc pm cdv ct oc:Value} {an od:Option Addr}
  {osl:Array (Option Value)} {N ps:List Str} {sp:Sp} (lk:K.lookup f=some ⟨oc,od,.func (PySem.W.fnOf name qual params body scope dV kV doc pm an cdv ct),osl⟩) (hcd:PySem.W.codeIn K cdv qual=true) (S:FnScope N ps scope)
  (len:∀vs H Q E,sp vs H Q E->vs.length=ps.length)
  (hbody:∀(A:Around) (outer:List Env) (s:Shared) (H:Hp) (vs:List V) (Q:VK) (E:XK),Room k (A.deeper (envOfC qual scope s.heap.objs.size f cdv))->sp vs H Q E->
   ∃t,PSs (cxOf CX P w K mg base N qual scope f cdv A outer s H E) body t/\t {nx:=fun _ H'=>Q .non H',rt:=Q} (start N vs) H):
  FnOk P w K mg base CX (k+1) f (PySem.W.fnOf name qual params body scope dV kV doc pm an cdv ct) ps sp:=by
 refine⟨len,fun A outer s H args us vs Q E hr e0 hb r hsp=> ?_⟩
 have hl:=len _ _ _ _ hsp
 have KX:K.In s.heap:=e0.mod.kin.keeps fun b o e=>(e0.bs b o e).1
 have lim:s.heap.NoLimit:=e0.mod.nolimit.keeps fun b o e=>(e0.bs b o e).1
 have hkind:∀y∈ps.zip us,scope.names.lookup y.1=some .local\/(scope.names.lookup y.1=some .cell/\((cellsFrom (s.heap.objs.size+1) scope.names []).lookup y.1).isSome=true):=fun ⟨n,v⟩ hy=>by
  rcases S.par n (List.of_mem_zip hy).1 with q | q
  ·exact .inl q
  ·exact .inr ⟨q,PySem.W.cellsFrom_some _ _ _ (.inl q)⟩
 refine codeAny_call_function hr.depth (KX _ _ lk) rfl S.co S.gen rfl (PySem.W.codeRec_of KX hcd) (hb _ _ _ _ ?_)
 refine wpAny_newFunctionEnv_cells S.kind hkind fun env he s1 x=> ?_
 subst he
 refine⟨lim.keeps x.toInCall.keep,codeAny_func ?_⟩
 obtain⟨t,ht,hq⟩:=hbody A outer s H vs Q E (hr.deeper _) hsp
 have I:Inv (cxOf CX P w K mg base N qual scope f cdv A outer s H E) [] (start N vs) H s1:=kUz S ⟨hr.hd,hr.gd⟩ e0 hl r x
 refine wpAny_mono (ht [] s1 (start N vs) H _ I hq) (fun fl s' hs=> ?_) fun e s' hs=>hs
 have fin:∀ {σ':St} {H':Hp} {v:V} {u:Value},Inv (cxOf CX P w K mg base N qual scope f cdv A outer s H E) [] σ' H' s'->RelV v u->Q v H'->CE outer P w H s Q u s':=
  fun {σ' H' v u} J rv q=>⟨v,H',J.os,J.bare,J.base,J.hok,rv,q⟩
 cases fl with
 | ret u=>
  obtain⟨v,σ',H',J,rv,q⟩:=hs
  exact fin J rv q
 | next=>
  obtain⟨σ',H',J,q⟩:=hs
  exact fin (v:=V.non) (u:=Value.none) J rfl q
 | brk=>
  obtain⟨_,_,_,q⟩:=hs
  exact False.elim q
 | cont=>
  obtain⟨_,_,_,q⟩:=hs
  exact False.elim q
section
variable {X:Cx} {x:Str} {p pos:Pos} {e:Expr} {es:List Expr} {t:TA} {id T:String} {r:List V->Hp->VK->Prop}
end
end L2
namespace HT
open PySem PyProof.Rows
theorem kYg (A:Around) (s:Shared) (a:Int) (t:Tok) (c:Int) (u:Tok):∃e,SeqAt.EqAt A s (.int a t) (.int c u) e/\(e=true↔a=c):=
 ⟨(a == c),SeqAt.EqAt.int_int a t c u,by simp⟩
section
open PySem.SeqAt
open PySem.AutoSeq1 (wpAny_loadPart')
open PySem.MeetsSeq PySem.MeetsSeq2 PySem.MeetsSeq3
end
section
variable {prog:Program} {w:World} {A:Around} {E:Value->Shared->Prop} {s:Shared}
theorem cat_tup {t b:Addr} {vs ws:List Value} {Q:Value->Shared->Prop} (ht:IsTup s.heap t vs.toArray) (hb:IsTup s.heap b ws.toArray) (hv:vs≠[])
  (h1:ws=[]->Q (.ref t) s) (h2:ws≠[]->Q (.ref s.heap.objs.size) {s with heap:=s.heap.push {cls:= .type "tuple",data:= .seq (vs++ws).toArray} })
  (hsz:vs.length+ws.length<=sizeLine):wpAny (model prog w) A (binaryOp .Add (.ref t) (.ref b)) Q E s:=by
 obtain⟨⟨cls,dd,data,sl⟩,ho,hc,n,hd⟩:=id ht
 obtain⟨⟨cls2,dd2,data2,sl2⟩,ho2,hc2,n2,hd2⟩:=id hb
 simp only at hc hd hc2 hd2
 subst hc hd hc2 hd2
 have e:vs.toArray++ws.toArray=(vs++ws).toArray:=by simp
 by_cases hw:ws=[]
 ·exact concat_meets ⟨_,ho,rfl⟩ ⟨_,ho2,rfl⟩ noFill_tuple_add seq_tuple_add PySem.F.slot_tuple_add PySem.F.entry_tuple_add (PySem.F.args_tuple_add_2 _ _)
   (tuple_addW1 t b vs.toArray ws.toArray n n2 dd dd2 sl sl2 (by simpa using hv) (by simp[hw])) ⟨ho,ho2,h1 hw⟩
 ·refine concat_meets ⟨_,ho,rfl⟩ ⟨_,ho2,rfl⟩ noFill_tuple_add seq_tuple_add PySem.F.slot_tuple_add PySem.F.entry_tuple_add (PySem.F.args_tuple_add_2 _ _)
   (tuple_addW2 t b vs.toArray ws.toArray n n2 dd dd2 sl sl2 (by simpa using hv) (by simpa using hw) (by rw[List.size_toArray,List.size_toArray];exact hsz)) ⟨ho,ho2,?_⟩
  rw[e]
  exact h2 hw
theorem kK1 {v:Value} {o:Option Int} {Q:Option Int->Shared->Prop} (p:IsPart v o) (h:Q o s):wpAny (model prog w) A (Builtin.Slice.slicePartIndex v) Q E s:=by
 cases p with
 | none=>exact slicePart_none h
 | int i t=>exact slicePart_int h
end
end HT
namespace L2
open PySem PySem.Spec PyProof.Rows
abbrev TO:=St->Hp->(Option Int->Hp->Prop)->Prop
theorem jXz {ns:List Int}:∀ {us:List Value},Vals (ns.map V.int) us->IntsAre us ns:=by
 induction ns with
 | nil=>intro us r;rw[List.map_nil] at r;cases r;exact .nil
 | cons n ns ih=>
  intro us r
  rw[List.map_cons] at r
  cases r with
  | cons r1 r2=>
   obtain⟨t,e⟩:=r1
   subst e
   exact .cons n t (ih r2)
section
variable {X:Cx} {e:Expr} {te:TE} {lo hi:Option Expr} {tl th:TO} {pos p2:Pos}
noncomputable def kXj (K:PySem.W.Frag):R2:=fun x y H Q=>∃a b xs ys,x= .ref a/\y= .ref b/\SqT K H a xs/\SqT K H b ys/\xs≠[]/\xs.length+ys.length<=sizeLine/\
 (ys=[]->Q (.ref a) H)/\(ys≠[]->∀p,H p=none->Q (.ref p) (upd H p (.tup (xs++ys))))
theorem Vals.nil_iff {xs:List V} {us:List Value} (r:Vals xs us):us=[]↔xs=[]:=by
 cases r with
 | nil=>simp
 | cons _ _=>simp
theorem kZ1:OpR X (binaryOp .Add) (kXj X.K):=by
 intro pins s σ H x y v u Q I rx ry h
 obtain⟨a,b,xs,ys,rfl,rfl,ha,hb,hx,hz,q1,q2⟩:=h
 cases rx
 cases ry
 obtain⟨its,r1,p1,_⟩:=I.tuple ha
 obtain⟨its2,r2,p2,_⟩:=I.tuple hb
 refine HT.cat_tup p1 p2 (fun z=>hx (r1.nil_iff.mp z)) (fun z=>⟨.ref a,H,I,rfl,q1 (r2.nil_iff.mp z)⟩) (fun z=> ?_) (by rw[<-r1.length,<-r2.length];exact hz)
 refine⟨.ref s.heap.objs.size,_,I.laid (t':=s.toks) (o:= .tup (xs++ys)) (fun b ob q=>Heap.get?_push_of_some _ q) (Nat.le_refl _) ?_,rfl,q2 (fun w=>z (r2.nil_iff.mpr w)) _ (I.hok.fresh (Nat.le_refl _))⟩
 exact⟨by rw[List.length_append];exact hz,_,r1.append r2,TupD.new _ _⟩
end
def ixN (n:Nat) (i:Int):Option Nat:=if 0<=i then (if i<n then some i.toNat else none) else if -(n:Int)<=i then some (i+n).toNat else none
def atI {α:Type} (xs:List α) (i:Int):Option α:=(ixN xs.length i).bind fun j=>xs[j]?
theorem kUy {n:Nat} {i:Int} {j:Nat} (h:ixN n i=some j):seqIndex? i n=some j/\j<n/\ -(n:Int)<=i/\i<n:=by
 unfold ixN at h
 by_cases h0:0<=i
 ·rw[if_pos h0] at h
  by_cases h1:i<n
  ·rw[if_pos h1] at h
   have e:i.toNat=j:=Option.some.inj h
   exact⟨by rw[seqIndex_of h0 h1,e],by omega,by omega,h1⟩
  ·rw[if_neg h1] at h;cases h
 ·rw[if_neg h0] at h
  by_cases h1: -(n:Int)<=i
  ·rw[if_pos h1] at h
   have e:(i+n).toNat=j:=Option.some.inj h
   exact⟨by rw[seqIndex_neg (by omega) h1,e],by omega,h1,by omega⟩
  ·rw[if_neg h1] at h;cases h
theorem kVs {α:Type} {xs:List α} {i:Int} {v:α} (h:atI xs i=some v):∃j,seqIndex? i xs.length=some j/\xs[j]? =some v/\j<xs.length/\ -(xs.length:Int)<=i/\i<xs.length:=by
 unfold atI at h
 cases e:ixN xs.length i with
 | none=>rw[e] at h;cases h
 | some j=>
  rw[e] at h
  obtain⟨h1,h2,h3,h4⟩:=kUy e
  exact⟨j,h1,h,h2,h3,h4⟩
def qJ3 (b:Expr):Prop:=∀o i,subscripted b false o i=operate [o,i] (getItem o i)
noncomputable def IxR (X:Cx) (r:R2):Prop:=
 ∀(value slice:Expr) (pins:List (Addr×Obj)) (s:Shared) (σ:St) (H:Hp) (x y:V) (v u:Value) (Q:VK),Inv X pins σ H s->RelV x v->RelV y u->r x y H Q->
  subscripted slice false v u=operate [v,u] (getItem v u)->wpAny (model X.prog X.w) X.A (subscriptTail value slice v u) (EP X pins σ Q) X.xe s
noncomputable def MtR (X:Cx) (id:String) (r:V->List V->Hp->VK->Prop):Prop:=
 ∀(pins:List (Addr×Obj)) (s:Shared) (σ:St) (H:Hp) (x:V) (xs:List V) (v:Value) (us:List Value) (Q:VK),Inv X pins σ H s->RelV x v->Vals xs us->r x xs H Q->
  wpAny (model X.prog X.w) X.A (call (.builtin id) (v::us)) (EP X pins σ Q) X.xe s
section
variable {X:Cx} {a b:Expr} {ta tb:TE} {pos:Pos}
theorem IxR.or {r r':R2} (h:IxR X r) (h':IxR X r'):IxR X (fun x y H Q=>r x y H Q\/r' x y H Q):=by
 intro value slice pins s σ H x y v u Q I rx ry q hs
 rcases q with q | q
 ·exact h value slice pins s σ H x y v u Q I rx ry q hs
 ·exact h' value slice pins s σ H x y v u Q I rx ry q hs
def rIxL (K:PySem.W.Frag):R2:=fun x y H Q=>∃p xs i v,x= .ref p/\y= .int i/\SqL K H p xs/\atI xs i=some v/\Q v H
def rIxT (K:PySem.W.Frag):R2:=fun x y H Q=>∃p xs i v,x= .ref p/\y= .int i/\SqT K H p xs/\atI xs i=some v/\Q v H
theorem ix_list:IxR X (rIxL X.K):=by
 intro value slice pins s σ H x y v u Q I rx ry h hs
 obtain⟨p,xs,i,z,rfl,rfl,hq,he,q⟩:=h
 cases rx
 obtain⟨t,rfl⟩:=ry
 obtain⟨its,r,pl,hz⟩:=I.list hq
 obtain⟨j,h1,h2,h3,h4,h5⟩:=kVs he
 obtain⟨w,ew,rw'⟩:=r.get h2
 have hl:=r.length
 have hn:=jXw
 have fin:EP X pins σ Q w s:=⟨z,H,I,rw',q⟩
 by_cases h0:0<=i
 ·have hj:i.toNat=j:=by
   rw[seqIndex_of h0 h5] at h1
   exact Option.some.inj h1
  exact item_listR pl.isList h0 (by omega) (by rw[hj];simpa using ew) fin hs
 ·have hj:(i+(its.toArray.size:Int)).toNat=j:=by
   rw[seqIndex_neg (by omega) h4] at h1
   rw[List.size_toArray,<-hl]
   exact Option.some.inj h1
  exact subscriptTail_builtinR (x:=w) pl.isList.typeIs slot_list_getitem.lookup
   (wpAny_getItem_list_neg (Q:=fun r s'=>r=w/\EP X pins σ Q r s') pl.isList (by omega) (by rw[List.size_toArray]<;>omega) (by omega) (by rw[hj];simpa using ew) ⟨rfl,fin⟩) hs
theorem ix_tup:IxR X (rIxT X.K):=by
 intro value slice pins s σ H x y v u Q I rx ry h hs
 obtain⟨p,xs,i,z,rfl,rfl,hq,he,q⟩:=h
 cases rx
 obtain⟨t,rfl⟩:=ry
 obtain⟨its,r,pl,hz⟩:=I.tuple hq
 obtain⟨j,h1,h2,h3,h4,h5⟩:=kVs he
 obtain⟨w,ew,rw'⟩:=r.get h2
 have hl:=r.length
 have hn:=jXw
 have fin:EP X pins σ Q w s:=⟨z,H,I,rw',q⟩
 exact subscriptTail_builtinR (x:=w) pl.typeIs slot_tuple_getitem.lookup
  (getItem_tuple (j:=j) (Q:=fun r s'=>r=w/\EP X pins σ Q r s') pl (by omega) (by omega) (by rw[List.size_toArray,<-hl];exact h1) (by simpa using ew) ⟨rfl,fin⟩) hs
theorem kQd (its:List Value) (n j:Nat) (u:Value):Obj.mapSeq (·.setIfInBounds j u) {cls:= .type "list",data:= .seq its.toArray n}={cls:= .type "list",data:= .seq (its.set j u).toArray n}:=by
 simp[Obj.mapSeq]
theorem Inv.lst {pins:List (Addr×Obj)} {σ:St} {H:Hp} {s:Shared} {p:Addr} {xs:List V} (I:Inv X pins σ H s) (h:H p=some (.lst xs)):
  ∃(its:List Value) (n:Nat),Vals xs its/\s.heap.get? p=some {cls:= .type "list",data:= .seq its.toArray n}/\xs.length<=sizeLine:=by
 obtain⟨z,its,n,r,e⟩:=I.hok p _ h
 exact⟨its,n,r,e,z⟩
theorem Inv.lstUpd {pins:List (Addr×Obj)} {σ:St} {H:Hp} {s:Shared} {p:Addr} {xs ys:List V} {its its':List Value} {n n':Nat} {f:Obj->Obj} (I:Inv X pins σ H s) (h:H p=some (.lst xs))
  (ho:s.heap.get? p=some {cls:= .type "list",data:= .seq its.toArray n}) (hf:f {cls:= .type "list",data:= .seq its.toArray n}={cls:= .type "list",data:= .seq its'.toArray n'}) (r:Vals ys its') (hz:ys.length<=sizeLine) (t:Nat):
  Inv X pins σ (upd H p (.lst ys)) {s with heap:=s.heap.update p f,toks:=t}:=by
 have e:(s.heap.update p f).get? p=some {cls:= .type "list",data:= .seq its'.toArray n'}:=by
  rw[Heap.get?_update_self f ho (by rw[hf]<;>rfl),hf]
 refine I.write (x:=p) (e:=p) (by rw[h];trivial) (.inl rfl) (fun b u hb q=>(Heap.get?_update_other _ _ (Ne.symm hb)).trans q) ⟨_,e⟩ ?_
 exact⟨hz,its',n',r,e⟩
def kXg:V->V->V->Hp->(Hp->Prop)->Prop:=fun o i v H Q=>∃p xs k j,o= .ref p/\i= .int k/\H p=some (.lst xs)/\ixN xs.length k=some j/\Q (upd H p (.lst (xs.set j v)))
theorem kV5:PSet X kXg:=by
 intro pins s σ H o i v ov iv u Q I ro ri rv h
 obtain⟨p,xs,k,j,rfl,rfl,hp,hj,q⟩:=h
 cases ro
 obtain⟨t,rfl⟩:=ri
 obtain⟨its,n,r,ho,hz⟩:=I.lst hp
 obtain⟨h1,h2,h3,h4⟩:=kUy hj
 have hl:=r.length
 have hn:=jXw
 have I':Inv X pins σ (upd H p (.lst (xs.set j v))) {s with heap:=s.heap.update p (Obj.mapSeq (·.setIfInBounds j u))}:=
  I.lstUpd hp ho (kQd its n j u) (r.set rv j) (by rw[List.length_set];exact hz) s.toks
 by_cases h0:0<=k
 ·have hk:k.toNat=j:=by
   rw[seqIndex_of h0 h4] at h1
   exact Option.some.inj h1
  exact PySem.W.ki_setAt ho h0 (by omega) (by rw[List.size_toArray,<-hl];exact h4) (by rw[hk];exact⟨_,I',q⟩)
 ·have hk:(k+(its.toArray.size:Int)).toNat=j:=by
   rw[seqIndex_neg (by omega) h3] at h1
   rw[List.size_toArray,<-hl]
   exact Option.some.inj h1
  exact PySem.W.ki_setBack ho (by omega) (by rw[List.size_toArray,<-hl];exact h3) (by omega) (by rw[hk];exact⟨_,I',q⟩)
def jXt:V->Bool
 | .non=>true
 | .bl _=>true
 | .int _=>true
 | .str _=>true
 | _=>false
noncomputable def eqV:V->V->Bool
 | .non,.non=>true
 | .bl a,.bl b=>a == b
 | .bl a,.int b=>(if a then 1 else 0) == b
 | .int a,.bl b=>a == (if b then 1 else 0)
 | .int a,.int b=>a == b
 | .str a,.str b=>a == b
 | _,_=>false
theorem eqAt_V {A:Around} {s:Shared} {y x:V} {u v:Value} (ry:RelV y u) (rx:RelV x v) (fy:jXt y=true) (fx:jXt x=true):SeqAt.EqAt A s u v (eqV y x):=by
 cases y with
 | non=>
  cases ry
  cases x with
  | non=>cases rx;exact SeqAt.EqAt.same _
  | bl b=>cases rx;exact SeqAt.EqAt.none_bool b
  | int b=>obtain⟨t,rfl⟩:=rx;exact SeqAt.EqAt.none_int b t
  | str b=>obtain⟨t,rfl⟩:=rx;exact SeqAt.EqAt.none_str b t
  | _=>exact absurd (show false=true from fx) Bool.false_ne_true
 | bl a=>
  cases ry
  cases x with
  | non=>cases rx;exact SeqAt.EqAt.bool_none a
  | bl b=>cases rx;exact SeqAt.EqAt.bool_bool a b
  | int b=>obtain⟨t,rfl⟩:=rx;exact SeqAt.EqAt.bool_int a b t
  | str b=>obtain⟨t,rfl⟩:=rx;exact SeqAt.EqAt.bool_str a b t
  | _=>exact absurd (show false=true from fx) Bool.false_ne_true
 | int a=>
  obtain⟨t',rfl⟩:=ry
  cases x with
  | non=>cases rx;exact SeqAt.EqAt.int_none a t'
  | bl b=>cases rx;exact SeqAt.EqAt.int_bool a t' b
  | int b=>obtain⟨t,rfl⟩:=rx;exact SeqAt.EqAt.int_int a t' b t
  | str b=>obtain⟨t,rfl⟩:=rx;exact SeqAt.EqAt.int_str a t' b t
  | _=>exact absurd (show false=true from fx) Bool.false_ne_true
 | str a=>
  obtain⟨t',rfl⟩:=ry
  cases x with
  | non=>cases rx;exact SeqAt.EqAt.str_none a t'
  | bl b=>cases rx;exact SeqAt.EqAt.str_bool a t' b
  | int b=>obtain⟨t,rfl⟩:=rx;exact SeqAt.EqAt.str_int a t' b t
  | str b=>obtain⟨t,rfl⟩:=rx;exact SeqAt.EqAt.str_str a t' b t
  | _=>exact absurd (show false=true from fx) Bool.false_ne_true
 | _=>exact absurd (show false=true from fy) Bool.false_ne_true
def eqU (x:V) (u:Value):Bool:=match u with
 | .none=>eqV .non x
 | .bool b=>eqV (.bl b) x
 | .int i _=>eqV (.int i) x
 | .str z _=>eqV (.str z) x
 | _=>false
theorem kVa {x y:V} {u:Value} (r:RelV y u) (f:jXt y=true):eqU x u=eqV y x:=by
 cases y with
 | non=>cases r;rfl
 | bl b=>cases r;rfl
 | int i=>obtain⟨t,rfl⟩:=r;rfl
 | str z=>obtain⟨t,rfl⟩:=r;rfl
 | _=>exact absurd (show false=true from f) Bool.false_ne_true
theorem kJz {x:V}:∀ {xs:List V} {us:List Value},Vals xs us->xs.all jXt=true->us.any (eqU x)=xs.any fun y=>eqV y x
 | _,_,.nil,_=>rfl
 | y::xs,u::us,.cons r t,f=>by
  rw[List.all_cons,Bool.and_eq_true] at f
  rw[List.any_cons,List.any_cons,kVa r f.1,kJz t f.2]
theorem jVn {A:Around} {s:Shared} {x:V} {v:Value} (rx:RelV x v) (fx:jXt x=true):∀ {xs:List V} {us:List Value},Vals xs us->xs.all jXt=true->∀u∈us,SeqAt.EqAt A s u v (eqU x u)
 | _,_,.nil,_=>fun u hu=>by cases hu
 | y::xs,u::us,.cons r t,f=>fun u' hu=>by
  rw[List.all_cons,Bool.and_eq_true] at f
  rcases (List.mem_cons.mp hu) with rfl | hu
  ·rw[kVa r f.1];exact eqAt_V r rx f.1 fx
  ·exact jVn rx fx t f.2 u' hu
def inV (x:V) (xs:List V):Bool:=xs.any fun y=>eqV y x
def rIn (K:PySem.W.Frag) (neg:Bool):R2:=fun x y H Q=>∃p xs,y= .ref p/\(SqL K H p xs\/SqT K H p xs)/\jXt x=true/\xs.all jXt=true/\Q (.bl (if neg then !inV x xs else inV x xs)) H
theorem jZb:OpR X (compareOp .NotIn) (rIn X.K true):=by
 intro pins s σ H x y v u Q I rx ry h
 obtain⟨p,xs,rfl,hq,fx,fs,q⟩:=h
 cases ry
 rcases hq with hq | hq
 ·obtain⟨its,r,pl,hz⟩:=I.list hq
  refine SeqAt.notIn_listAt (eqU x) pl.isList (fun w hw=>jVn rx fx r fs w (by simpa using hw)) ⟨.bl _,H,I,rfl,?_⟩
  rw[show its.toArray.any (eqU x)=its.any (eqU x) by simp,kJz r fs]
  exact q
 ·obtain⟨its,r,pl,hz⟩:=I.tuple hq
  refine SeqAt.notIn_tupleAt (eqU x) pl (fun w hw=>jVn rx fx r fs w (by simpa using hw)) ⟨.bl _,H,I,rfl,?_⟩
  rw[show its.toArray.any (eqU x)=its.any (eqU x) by simp,kJz r fs]
  exact q
theorem jZo:jZw X (.builtin "len") (fun xs H Q=>∃p ys,xs=[.ref p]/\(SqL X.K H p ys\/SqT X.K H p ys)/\Q (.int ys.length) H):=by
 intro pins s σ H xs us Q I r h
 obtain⟨p,ys,rfl,hq,q⟩:=h
 obtain⟨u,rfl,rx⟩:=kKw r
 cases rx
 have hn:=jXw
 rcases hq with hq | hq
 ·obtain⟨its,r',pl,hz⟩:=I.list hq
  have hlen:=r'.length
  exact Calls.call_len_list pl.isList (by simp only[List.size_toArray]<;>omega) ⟨.int ys.length,H,I.tok _,⟨s.toks+1,by rw[List.size_toArray,hlen]⟩,q⟩
 ·obtain⟨its,r',pl,hz⟩:=I.tuple hq
  have hlen:=r'.length
  exact len_tuple pl (by simp only[List.size_toArray]<;>omega) ⟨.int ys.length,H,I.tok _,⟨s.toks+1,by rw[List.size_toArray,hlen]⟩,q⟩
theorem jZn:jZw X (.type "list") (fun xs H Q=>∃p ys,xs=[.ref p]/\(SqL X.K H p ys\/SqT X.K H p ys)/\∀l,H l=none->Q (.ref l) (upd H l (.lst ys))):=by
 intro pins s σ H xs us Q I r h
 obtain⟨p,ys,rfl,hq,q⟩:=h
 obtain⟨u,rfl,rx⟩:=kKw r
 cases rx
 have fin:∀(its:List Value),Vals ys its->ys.length<=sizeLine->∀(h':Heap) (c':Nat),(∀b o',s.heap.get? b=some o'->h'.get? b=some o')->
   h'.get? s.heap.objs.size=some {cls:= .type "list",dict:=none,data:= .seq its.toArray c',slots:= #[]}->EP X pins σ Q (.ref s.heap.objs.size) {s with heap:=h'}:=fun its r' hz h' c' kp e=>
  ⟨.ref s.heap.objs.size,_,I.laid (t':=s.toks) kp (Nat.le_refl _) (show ObjOk X.prog X.w _ h' _ (.lst ys) from⟨hz,its,c',r',e⟩),rfl,q _ (I.hok.fresh (Nat.le_refl _))⟩
 rcases hq with hq | hq
 ·obtain⟨its,r',pl,hz⟩:=I.list hq
  have hlen:=r'.length
  obtain⟨o,ho,hc,n,hd⟩:=pl.isList
  exact call_list_seq p (.inl rfl) ho hc hd (fun h' c' kp e=>fin its r' hz h' c' kp e) (by simp only[List.size_toArray]<;>omega)
 ·obtain⟨its,r',pl,hz⟩:=I.tuple hq
  have hlen:=r'.length
  obtain⟨o,ho,hc,n,hd⟩:=pl
  exact call_list_seq p (.inr rfl) ho hc hd (fun h' c' kp e=>fin its r' hz h' c' kp e) (by simp only[List.size_toArray]<;>omega)
theorem jYx:jZw X (.type "tuple") (fun xs H Q=>∃p ys,xs=[.ref p]/\((SqL X.K H p ys/\∀l,H l=none->Q (.ref l) (upd H l (.tup ys)))\/(SqT X.K H p ys/\Q (.ref p) H))):=by
 intro pins s σ H xs us Q I r h
 obtain⟨p,ys,rfl,h⟩:=h
 obtain⟨u,rfl,rx⟩:=kKw r
 cases rx
 rcases h with ⟨hq,q⟩ | ⟨hq,q⟩
 ·obtain⟨its,r',pl,hz⟩:=I.list hq
  have hlen:=r'.length
  refine call_tuple_list pl.isList (fun h' kp=> ?_) (by simp only[List.size_toArray]<;>omega)
  have I1:Inv X pins σ H {s with heap:=h'}:=I.kept (t':=s.toks) kp
  have I2:Inv X pins σ (upd H h'.objs.size (.tup ys)) {s with heap:=h'.push {cls:= .type "tuple",data:= .seq its.toArray} }:=
   I1.laid (t':=s.toks) (fun b o e=>Heap.get?_push_of_some _ e) (Nat.le_refl _) (show ObjOk X.prog X.w _ _ _ (.tup ys) from⟨hz,its,r',TupD.new _ _⟩)
  exact⟨.ref h'.objs.size,_,I2,rfl,q _ (I1.hok.fresh (Nat.le_refl _))⟩
 ·obtain⟨its,r',pl,hz⟩:=I.tuple hq
  exact call_tuple_same pl ⟨.ref p,H,I,rfl,q⟩
noncomputable def tyV (K:PySem.W.Frag) (T:String) (x:V) (H:Hp):Prop:=match x with
 | .str _=>T="str"
 | .int _=>T="int"
 | .ref p=>(T="list"/\∃xs,SqL K H p xs)\/(T="tuple"/\∃o,K.lookup p=some o/\o.cls= .type "tuple"/\o.dict=none)\/
   (T="dict"/\((∃kvs,H p=some (.dK kvs))\/∃kvs,H p=some (.dT kvs)))\/(T="set"/\∃S n,H p=some (.set S n))
 | _=>False
theorem tyV_is {pins:List (Addr×Obj)} {σ:St} {H:Hp} {s:Shared} {T:String} {x:V} {v:Value} (I:Inv X pins σ H s) (r:RelV x v) (ty:tyV X.K T x H):
  s.TypeIs v T/\∀a,v= .ref a->∃ob,s.heap.get? a=some ob/\ob.dict=none:=by
 cases x with
 | str z=>
  obtain⟨t,rfl⟩:=r
  cases (show T="str" from ty)
  exact⟨typeIs_str s z t,fun _ e=>nomatch e⟩
 | int i=>
  obtain⟨t,rfl⟩:=r
  cases (show T="int" from ty)
  exact⟨typeIs_int s i t,fun _ e=>nomatch e⟩
 | ref p=>
  cases r
  rcases ty with ⟨rfl,xs,hq⟩ | ⟨rfl,o,hk,hc,hd⟩ | ⟨rfl,hk⟩ | ⟨rfl,S,n,hk⟩
  ·obtain⟨its,_,pl,_⟩:=I.list hq
   refine⟨pl.isList.typeIs,fun a e=> ?_⟩
   cases e
   obtain⟨o,n,e,c,hd,_⟩:=pl
   exact⟨o,e,hd⟩
  ·refine⟨⟨o,I.kIn p o hk,hc⟩,fun a e=> ?_⟩
   cases e
   exact⟨o,I.kIn _ o hk,hd⟩
  ·have z:∃o,s.heap.get? p=some o/\o.ExactDict:=by
    rcases hk with ⟨kvs,hk⟩ | ⟨kvs,hk⟩
    ·obtain⟨_,_,_,_,o,_,_,e,ex,_⟩:=I.hok p _ hk
     exact⟨o,e,ex⟩
    ·obtain⟨_,_,_,_,o,_,_,e,ex,_⟩:=I.hok p _ hk
     exact⟨o,e,ex⟩
   obtain⟨o,e,ex⟩:=z
   refine⟨⟨o,e,ex.1⟩,fun a e2=> ?_⟩
   cases e2
   exact⟨o,e,ex.2.1⟩
  ·obtain⟨o,_,_,_,e,ex,_⟩:=I.hok p _ hk
   refine⟨⟨o,e,ex.1⟩,fun a e2=> ?_⟩
   cases e2
   exact⟨o,e,ex.2.1⟩
 | _=>exact False.elim ty
variable {o e:Expr} {es:List Expr} {to:TE} {t:TA} {name:Str} {apos cpos:Pos} {T id:String} {r:V->List V->Hp->VK->Prop}
end
noncomputable def MtM (X:Cx) (id:String) (r:V->List V->Hp->VK->Prop):Prop:=
 ∀(pins:List (Addr×Obj)) (s:Shared) (σ:St) (H:Hp) (x:V) (xs:List V) (v:Value) (us:List Value) (Q:VK),Inv X pins σ H s->RelV x v->Vals xs us->r x xs H Q->
  wpAny (model X.prog X.w) X.A (call (.builtin id) (v::us)) (EP X pins σ Q) X.xe s
theorem Vals.one {x:V} {us:List Value} (h:Vals [x] us):∃u,us=[u]/\RelV x u:=by
 cases h with | cons r t=>(cases t;exact⟨_,rfl,r⟩)
theorem Vals.two {x y:V} {us:List Value} (h:Vals [x,y] us):∃u v,us=[u,v]/\RelV x u/\RelV y v:=by
 cases h with | cons r t=>(cases t with | cons q t=>(cases t;exact⟨_,_,rfl,r,q⟩))
theorem Vals.rep {xs:List V} {us:List Value} (h:Vals xs us):∀k:Nat,Vals (List.replicate k xs).flatten (List.replicate k us).flatten
 | 0=> .nil
 | k+1=>by
  rw[List.replicate_succ,List.replicate_succ,List.flatten_cons,List.flatten_cons]
  exact Vals.append h (Vals.rep h k)
theorem jXc (its:List Value):∀(k:Nat) (acc:List Value),
  List.foldl (fun x1 x2=>x1++x2) acc.toArray (List.replicate k its.toArray)=(acc++(List.replicate k its).flatten).toArray
 | 0,acc=>by simp
 | k+1,acc=>by
  have e:acc.toArray++its.toArray=(acc++its).toArray:=by simp
  have e2:(acc++its)++(List.replicate k its).flatten=acc++(List.replicate (k+1) its).flatten:=by
   rw[List.replicate_succ,List.flatten_cons,List.append_assoc]
  rw[<-e2,<-jXc its k (acc++its),<-e,List.replicate_succ,List.foldl_cons]
section
variable {X:Cx} {pins:List (Addr×Obj)} {σ:St} {H:Hp} {s:Shared} {l b:Addr} {xs ys zs:List V}
theorem Inv.lset {its its':List Value} {n:Nat} {f:Array Value->Array Value} {t':Nat} (I:Inv X pins σ H s) (hH:H l=some (.lst xs))
  (e:s.heap.get? l=some {cls:= .type "list",data:= .seq its.toArray n}) (hf:f its.toArray=its'.toArray) (hv:Vals ys its') (hz:ys.length<=sizeLine):
  Inv X pins σ (upd H l (.lst ys)) {s with heap:=s.heap.update l (Obj.mapSeq f),toks:=t'}:=by
 have q:=PySem.IsL.update e f
 rw[hf] at q
 refine I.write (x:=l) (e:=l) (by rw[hH];exact trivial) (.inl rfl) (fun b' u hb hu=>(Heap.get?_update_other s.heap (Obj.mapSeq f) (Ne.symm hb)).trans hu) ⟨_,q⟩ ?_
 exact⟨hz,its',_,hv,q⟩
theorem Inv.lnew {its:List Value} {t':Nat} (I:Inv X pins σ H s) (hv:Vals ys its) (hz:ys.length<=sizeLine):
  Inv X pins σ (upd H s.heap.objs.size (.lst ys)) {s with heap:=s.heap.push {cls:= .type "list",data:= .seq its.toArray},toks:=t'}:=
 I.laid (fun _ _ q=>Heap.get?_push_of_some _ q) (Nat.le_refl _) ⟨hz,its,0,hv,Heap.get?_push_size _ rfl⟩
theorem Inv.fresh (I:Inv X pins σ H s):H s.heap.objs.size=none:=I.hok.fresh (Nat.le_refl _)
theorem Inv.lstM (I:Inv X pins σ H s) (hH:H l=some (.lst xs)):xs.length<=sizeLine/\∃(its:List Value) (n:Nat),Vals xs its/\xs.length=its.length/\s.heap.get? l=some {cls:= .type "list",data:= .seq its.toArray n}:=by
 obtain⟨z,its,n,r,e⟩:=I.hok l _ hH
 exact⟨z,its,n,r,r.length,e⟩
theorem kXt {n:Nat} (h:n<=sizeLine):Builtin.List.listTooLong n=false:=by
 unfold Builtin.List.listTooLong
 exact decide_eq_false (by omega)
end
section
variable {X:Cx}
def jKf:V->List V->Hp->VK->Prop:=fun x vs H Q=>∃l xs y,x= .ref l/\vs=[y]/\H l=some (.lst xs)/\xs.length<sizeLine/\Q .non (upd H l (.lst (xs++[y])))
theorem kUt:MtM X "list.append" jKf:=by
 intro pins s σ H x vs v us Q I rx rv h
 obtain⟨l,xs,y,rfl,rfl,hH,hz,q⟩:=h
 cases rx
 obtain⟨u,rfl,ru⟩:=rv.one
 obtain⟨z,its,n,r,hl,e⟩:=I.lstM hH
 refine call_meets F.slot_list_append ⟨_,e,rfl⟩ F.entry_list_append (F.args_list_append_2 _ _) (PySem.list_append l its.toArray n u (by rw[List.size_toArray];omega)) ⟨e,?_⟩
 refine⟨.non,_,I.lset (its':=its++[u]) hH e (by simp) (r.append (.cons ru .nil)) ?_,rfl,q⟩
 rw[List.length_append,List.length_singleton]
 omega
noncomputable def rCat:R2:=fun x y H Q=>∃l b xs zs,x= .ref l/\y= .ref b/\H l=some (.lst xs)/\H b=some (.lst zs)/\xs.length+zs.length<=sizeLine/\∀p,H p=none->Q (.ref p) (upd H p (.lst (xs++zs)))
theorem op_cat:OpR X (binaryOp .Add) rCat:=by
 intro pins s σ H x y v u Q I rx ry h
 obtain⟨l,b,xs,zs,rfl,rfl,hH,hB,hz,q⟩:=h
 cases rx
 cases ry
 obtain⟨z,its,n,r,hl,e⟩:=I.lstM hH
 obtain⟨z2,its2,n2,r2,hl2,e2⟩:=I.lstM hB
 refine PySem.P.add_list e e2 ?_ (by rw[List.size_toArray,List.size_toArray];omega)
 have ea:its.toArray++its2.toArray=(its++its2).toArray:=by simp
 rw[ea]
 exact⟨.ref _,_,I.lnew (t':=s.toks) (r.append r2) (by rw[List.length_append];omega),rfl,q _ I.fresh⟩
noncomputable def rRep:R2:=fun x y H Q=>∃l k xs,x= .ref l/\y= .int k/\H l=some (.lst xs)/\ -(2^63)<=k/\k<2^63/\xs.length*k.toNat<=sizeLine/\
 ∀p,H p=none->Q (.ref p) (upd H p (.lst (List.replicate k.toNat xs).flatten))
theorem kJp {α:Type} (xs:List α) (k:Nat):(List.replicate k xs).flatten.length=k*xs.length:=by
 induction k with
 | zero=>simp
 | succ k ih=>rw[List.replicate_succ,List.flatten_cons,List.length_append,ih,Nat.succ_mul,Nat.add_comm]
theorem op_rep:OpR X (binaryOp .Mult) rRep:=by
 intro pins s σ H x y v u Q I rx ry h
 obtain⟨l,k,xs,rfl,rfl,hH,h1,h2,hz,q⟩:=h
 cases rx
 obtain⟨t,rfl⟩:=ry
 obtain⟨z,its,n,r,hl,e⟩:=I.lstM hH
 have hlen:its.toArray.size*k.toNat<=sizeLine:=by rw[List.size_toArray,<-hl];exact hz
 have hcap:¬ its.toArray.size*k.toNat>(2^63-1) / 8:=by
  have:(sizeLine:Nat)<=(2^63-1) / 8:=by decide
  omega
 have hfit:¬ (!Builtin.List.listFitsIndex k)=true:=by
  rw[fitsIndex_both h1 h2]
  exact Bool.false_ne_true
 have hlong:¬ Builtin.List.listTooLong (its.toArray.size*k.toNat)=true:=by
  rw[kXt hlen]
  exact Bool.false_ne_true
 have hnew:List.foldl (fun x1 x2=>x1++x2) #[] (List.replicate (if its.toArray.isEmpty=true then 0 else k.toNat) its.toArray)=(List.replicate k.toNat its).flatten.toArray:=by
  have f0:∀m:Nat,List.foldl (fun x1 x2=>x1++x2) #[] (List.replicate m its.toArray)=(List.replicate m its).flatten.toArray:=fun m=>by
   have:=jXc its m []
   rw[List.nil_append] at this
   exact this
  rw[f0]
  cases its with
  | nil=>simp
  | cons a r'=>rw[if_neg (by simp)]
 refine wpAny_binaryOp_repeat_ref (T:="list") (U:="int") (by decide) ⟨_,e,rfl⟩ (fun s'=>typeIs_int s' k t) noFill_list_mul F.fills_int_mul F.slot_int_rmul repeat_list F.slot_int_index.lookup
  (call_meets F.slot_int_rmul (typeIs_int s k t) F.entry_int_rmul (F.args_int_rmul_2 _ _) (int___rmul___int_list k t l its.toArray n)
   ⟨e,rfl,⟨_,e,rfl⟩,call_meets F.slot_list_mul ⟨_,e,rfl⟩ F.entry_list_mul (F.args_list_mul_2 _ _) (AutoListH.list___mul___list_int_3 l its.toArray n k t hfit hcap hlong) ⟨e,?_⟩⟩)
 rw[hnew]
 exact⟨.ref _,_,I.lnew (t':=s.toks) (r.rep k.toNat) (by rw[kJp,Nat.mul_comm];exact hz),rfl,q _ I.fresh⟩
end
section
variable {prog:Program} {w:World} {A:Around} {E:Value->Shared->Prop} {s:Shared}
end
section
variable {X:Cx}
end
section
variable {κ:Type} [DecidableEq κ]
def valV (kvs:List (κ×V)) (k:κ):Option V:=(kvs.find? fun kv=>decide (kv.1=k)).map (·.2)
def putK (kvs:List (κ×V)) (k:κ) (v:V):List (κ×V):=
 if (kvs.any fun kv=>decide (kv.1=k))=true then kvs.map (fun kv=>if kv.1=k then (kv.1,v) else kv) else kvs++[(k,v)]
theorem jVh {p:κ×V} {r:List (κ×V)} {k:κ} (e:p.1=k):valV (p::r) k=some p.2:=by simp[valV,List.find?_cons,e]
theorem jVi {p:κ×V} {r:List (κ×V)} {k:κ} (e:¬ p.1=k):valV (p::r) k=valV r k:=by simp[valV,List.find?_cons,e]
theorem kJ4 (k:κ):∀kvs:List (κ×V),(kvs.any fun kv=>decide (kv.1=k))=(valV kvs k).isSome
 | []=>rfl
 | p::r=>by
  rw[List.any_cons]
  by_cases e:p.1=k
  ·simp only[jVh e,decide_eq_true e,Bool.true_or,Option.isSome_some]
  ·rw[jVi e,decide_eq_false e,Bool.false_or];exact kJ4 k r
theorem jV6 (kvs:List (κ×V)) (k:κ) (v:V):(putK kvs k v).length<=kvs.length+1:=by
 unfold putK
 split
 ·rw[List.length_map];omega
 ·rw[List.length_append,List.length_cons,List.length_nil];omega
theorem RelO.isSome_eq {o:Option V} {u:Option Value} (r:RelO o u):o.isSome=u.isSome:=by
 cases o with
 | none=>cases u with
  | none=>rfl
  | some _=>exact (show False from r).elim
 | some _=>cases u with
  | none=>exact (show False from r).elim
  | some _=>rfl
theorem KV.val {kvs:List (κ×V)} {vs:List (κ×Value)} (r:KV kvs vs) (k:κ):RelO (valV kvs k) (valueAt vs k):=by
 unfold KV at r
 induction r with
 | nil=>exact True.intro
 | @cons p q ps qs h t ih=>
  obtain⟨h1,h2⟩:=h
  by_cases e:p.1=k
  ·have e':q.1=k:=h1.symm.trans e
   have b:valueAt (q::qs) k=some q.2:=by simp[valueAt,List.find?_cons,e']
   rw[jVh e,b];exact h2
  ·have e':¬ q.1=k:=fun z=>e (h1.trans z)
   have b:valueAt (q::qs) k=valueAt qs k:=by simp[valueAt,List.find?_cons,e']
   rw[jVi e,b];exact ih
theorem KV.any {kvs:List (κ×V)} {vs:List (κ×Value)} (r:KV kvs vs) (k:κ):(kvs.any fun kv=>decide (kv.1=k))=vs.any fun kv=>decide (kv.1=k):=by
 unfold KV at r
 induction r with
 | nil=>rfl
 | cons h t ih=>rw[List.any_cons,List.any_cons,ih,h.1]
theorem KV.repl {kvs:List (κ×V)} {vs:List (κ×Value)} (r:KV kvs vs) (k:κ) {y:V} {u:Value} (ry:RelV y u):
  KV (kvs.map fun kv=>if kv.1=k then (kv.1,y) else kv) (vs.map fun kv=>if kv.1=k then (kv.1,u) else kv):=by
 unfold KV at r ⊢
 induction r with
 | nil=>exact .nil
 | @cons p q ps qs h t ih=>
  rw[List.map_cons,List.map_cons]
  refine .cons ?_ ih
  obtain⟨h1,h2⟩:=h
  by_cases e:p.1=k
  ·rw[if_pos e,if_pos (h1.symm.trans e)];exact⟨h1,ry⟩
  ·rw[if_neg e,if_neg (fun z=>e (h1.trans z))];exact⟨h1,h2⟩
theorem KV.put {kvs:List (κ×V)} {vs:List (κ×Value)} (r:KV kvs vs) (k:κ) {y:V} {u:Value} (ry:RelV y u):KV (putK kvs k y) (stored vs k u):=by
 unfold putK stored
 rw[r.any k]
 by_cases e:(vs.any fun kv=>decide (kv.1=k))=true
 ·rw[if_pos e,if_pos e];exact r.repl k ry
 ·rw[if_neg e,if_neg e];exact Paired.snoc r ⟨rfl,ry⟩
theorem KV.length {kvs:List (κ×V)} {vs:List (κ×Value)} (r:KV kvs vs):kvs.length=vs.length:=Paired.length r
end
theorem kJq {P:Program} {w:World} {k:Key} {u:Value} (r:RelV (kV k) u):(jJ9 P w).is k u=true:=by
 cases k with
 | inl i=>obtain⟨t,e⟩:=(show ∃t,u=Value.int i t from r);subst e;exact kJn P w i t
 | inr x=>obtain⟨t,e⟩:=(show ∃t,u=Value.str x t from r);subst e;exact kJm P w x t
abbrev KT (H:Hp):List (TKey×V)->List (TKey×Addr×Value)->Prop:=Paired fun p q=>p.1=q.1/\TKeyAt H p.1 q.2.1/\RelV p.2 q.2.2
theorem KT.val {H:Hp} {kvs:List (TKey×V)} {xs:List (TKey×Addr×Value)} (r:KT H kvs xs) (k:TKey):RelO (valV kvs k) ((atKey xs k).map (·.2)):=by
 induction r with
 | nil=>exact True.intro
 | @cons p q ps qs h t ih=>
  obtain⟨h1,_,h2⟩:=h
  by_cases e:p.1=k
  ·have e':q.1=k:=h1.symm.trans e
   have b:atKey (q::qs) k=some q.2:=by simp[atKey,List.find?_cons,e']
   rw[jVh e,b];exact h2
  ·have e':¬ q.1=k:=fun z=>e (h1.trans z)
   have b:atKey (q::qs) k=atKey qs k:=by simp[atKey,List.find?_cons,e']
   rw[jVi e,b];exact ih
theorem KT.repl {H:Hp} {kvs:List (TKey×V)} {xs:List (TKey×Addr×Value)} (r:KT H kvs xs) (k:TKey) {y:V} {u:Value} (ry:RelV y u):
  KT H (kvs.map fun kv=>if kv.1=k then (kv.1,y) else kv) (xs.map (putAt k u)):=by
 induction r with
 | nil=>exact .nil
 | @cons p q ps qs h t ih=>
  rw[List.map_cons,List.map_cons]
  refine .cons ?_ ih
  obtain⟨h1,h2,h3⟩:=h
  unfold putAt
  by_cases e:p.1=k
  ·rw[if_pos e,if_pos (h1.symm.trans e)];exact⟨h1,h2,ry⟩
  ·rw[if_neg e,if_neg (fun z=>e (h1.trans z))];exact⟨h1,h2,h3⟩
theorem KT.put {H:Hp} {kvs:List (TKey×V)} {xs:List (TKey×Addr×Value)} (r:KT H kvs xs) (k:TKey) {b:Addr} {y:V} {u:Value} (hb:TKeyAt H k b) (ry:RelV y u):
  KT H (putK kvs k y) (storedH xs k b u):=by
 have e:(kvs.any fun kv=>decide (kv.1=k))=(atKey xs k).isSome:=by
  rw[kJ4,(r.val k).isSome_eq,Option.isSome_map]
 unfold putK storedH
 rw[e]
 by_cases q:(atKey xs k).isSome=true
 ·rw[if_pos q,if_pos q];exact r.repl k ry
 ·rw[if_neg q,if_neg q];exact Paired.snoc r ⟨rfl,hb,ry⟩
theorem KT.keeps {H H':Hp} {kvs:List (TKey×V)} {xs:List (TKey×Addr×Value)} (r:KT H kvs xs) (ht:∀b ys,H b=some (.tup ys)->H' b=some (.tup ys)):KT H' kvs xs:=
 Paired.mapP r fun _ _ z=>⟨z.1,z.2.1.mono ht,z.2.2⟩
section
variable {P:Program} {w:World} {H:Hp} {h:Heap} {a:Addr}
theorem rd_of {u:HO} (ok:HOk P w H h) (e:Rd H a u):ObjOk P w H h a u:=e.ok ok
theorem kYl {kvs:List (Key×V)} (ok:HOk P w H h) (e:Rd H a (.dK kvs)):kvs.length<=sizeLine/\(a == sysModules)=false/\∃vs,KV kvs vs/\h.DictOf (jJ9 P w) a vs:=
 show ObjOk P w H h a (.dK kvs) from rd_of ok e
theorem dk_of {kvs:List (Key×V)} (ok:HOk P w H h) (e:H a=some (.dK kvs)):kvs.length<=sizeLine/\(a == sysModules)=false/\∃vs,KV kvs vs/\h.DictOf (jJ9 P w) a vs:=kYl ok (.inl e)
theorem kKh {K:Type} [DecidableEq K] {c:Nat} {T:KeyV P w K c} {R:K->V->Prop} (hR:∀k x u,R k x->RelV x u->T.is h k u):∀ {ks:List K} {xs:List V} {us:List Value},Paired R ks xs->Vals xs us->ItemsV T h ks us
 | _,_,_,.nil,.nil=> .nil
 | _,_,_,.cons r t,.cons q z=> .cons (hR _ _ _ r q) (kKh hR t z)
theorem jZ0 {K:Type} [DecidableEq K] {c:Nat} {T:KeyV P w K c} {R:K->V->Prop} {ks:List K} {xs:List V} {p:Addr} (ok:HOk P w H h) (hR:∀k x u,R k x->RelV x u->T.is h k u) (e:H p=some (.tup xs)) (r:Paired R ks xs):kVw T h ks (.ref p):=by
 obtain⟨_,its,q,o,h1,h2,n,h3,_⟩:=(show ObjOk P w H h p (.tup xs) from ok p _ e)
 exact⟨p,o,its.toArray,n,rfl,h1,h2,h3,by simpa using kKh hR r q⟩
theorem r1_of (ok:HOk P w H h) (k:K1) (x:V) (u:Value) (r:Rk1 H k x) (q:RelV x u):(vk1 P w).is h k u:=by
 cases k with
 | inl k=>cases (show x=kV k from r);exact kJq (P:=P) (w:=w) q
 | inr ks=>
  obtain⟨p,vs,rfl,e,t⟩:=(show ∃p vs,x= .ref p/\H p=some (.tup vs)/\Paired (fun k v=>v=kV k) ks vs from r)
  cases (show u=Value.ref p from q)
  exact jZ0 (T:=kKu P w) ok (fun k x u r q=>by subst r;exact kJq (P:=P) (w:=w) q) e t
theorem r2_of (ok:HOk P w H h) (k:K2) (x:V) (u:Value) (r:Rk2 H k x) (q:RelV x u):(vk2 P w).is h k u:=by
 cases k with
 | inl k=>cases (show x=kV k from r);exact kJq (P:=P) (w:=w) q
 | inr ks=>
  obtain⟨p,vs,rfl,e,t⟩:=(show ∃p vs,x= .ref p/\H p=some (.tup vs)/\Paired (Rk1 H) ks vs from r)
  cases (show u=Value.ref p from q)
  exact jZ0 (T:=vk1 P w) ok (r1_of ok) e t
theorem kKf {ks:TKey} (ok:HOk P w H h) (e:TKeyAt H ks a):(jQ3 P w).is h ks a:=by
 obtain⟨vs,h1,t⟩:=e
 exact jZ0 (T:=vk2 P w) ok (r2_of ok) h1 t
theorem kYj {kvs:List (TKey×V)} (ok:HOk P w H h) (e:Rd H a (.dT kvs)):kvs.length<=sizeLine/\(a == sysModules)=false/\
  ∃xs,KT H kvs xs/\h.DictOfH (jQ3 P w) a xs:=by
 obtain⟨z,y,xs,r,o,es,ep,h1,h2,h3,h4,h5⟩:=(show ObjOk P w H h a (.dT kvs) from rd_of ok e)
 refine⟨z,y,xs,r,o,es,ep,h1,h2,h3,h4,fun x hx=> ?_,h5⟩
 have all:∀ {l:List (TKey×V)} {m:List (TKey×Addr×Value)},KT H l m->∀x∈m,(jQ3 P w).is h x.1 x.2.1:=by
  intro l m q
  induction q with
  | nil=>intro x hx;exact nomatch hx
  | @cons p q ps qs hq t ih=>
   intro x hx
   rcases (List.mem_cons.mp hx) with e | hx
   ·subst e
    exact kKf ok (by rw[<-hq.1];exact hq.2.1)
   ·exact ih x hx
 exact all r x hx
theorem dt_of {kvs:List (TKey×V)} (ok:HOk P w H h) (e:H a=some (.dT kvs)):kvs.length<=sizeLine/\(a == sysModules)=false/\
  ∃xs,KT H kvs xs/\h.DictOfH (jQ3 P w) a xs:=kYj ok (.inl e)
end
def DGet (H:Hp) (a:Addr) (y:V) (r:Option V):Prop:=
 (∃kvs k,Rd H a (.dK kvs)/\y=kV k/\r=valV kvs k)\/∃kvs k b,Rd H a (.dT kvs)/\y= .ref b/\TKeyAt H k b/\r=valV kvs k
noncomputable def DPut (H:Hp) (a:Addr) (y v:V) (H':Hp):Prop:=
 (∃kvs k,H a=some (.dK kvs)/\y=kV k/\kvs.length<sizeLine/\H'=upd H a (.dK (putK kvs k v)))\/
 ∃kvs k b,H a=some (.dT kvs)/\y= .ref b/\TKeyAt H k b/\kvs.length<sizeLine/\H'=upd H a (.dT (putK kvs k v))
theorem DGet.k {H:Hp} {a:Addr} {kvs:List (Key×V)} {k:Key} (e:H a=some (.dK kvs)):DGet H a (kV k) (valV kvs k):= .inl ⟨kvs,k,.inl e,rfl,rfl⟩
theorem DGet.t {H:Hp} {a b:Addr} {kvs:List (TKey×V)} {k:TKey} (e:H a=some (.dT kvs)) (eb:TKeyAt H k b):DGet H a (.ref b) (valV kvs k):= .inr ⟨kvs,k,b,.inl e,rfl,eb,rfl⟩
theorem DPut.k {H:Hp} {a:Addr} {kvs:List (Key×V)} {k:Key} {v:V} (e:H a=some (.dK kvs)) (hl:kvs.length<sizeLine):DPut H a (kV k) v (upd H a (.dK (putK kvs k v))):= .inl ⟨kvs,k,e,rfl,hl,rfl⟩
theorem DPut.t {H:Hp} {a b:Addr} {kvs:List (TKey×V)} {k:TKey} {v:V} (e:H a=some (.dT kvs)) (eb:TKeyAt H k b) (hl:kvs.length<sizeLine):
  DPut H a (.ref b) v (upd H a (.dT (putK kvs k v))):= .inr ⟨kvs,k,b,e,rfl,eb,hl,rfl⟩
section
variable {X:Cx} {pins:List (Addr×Obj)} {σ:St} {H:Hp} {s:Shared} {a:Addr} {y v:V} {u r:Value} {o:Option V} {A:Around} {E:Value->Shared->Prop}
theorem Inv.big (I:Inv X pins σ H s):sysModules<s.heap.objs.size:=by
 have h:mainGlobals<s.heap.objs.size:=(I.mod.glob.keeps I.bk).lt
 exact Nat.lt_trans (by decide) h
theorem kVj {Q:Value->Shared->Prop} (hu:A.units+20<cLine) (I:Inv X pins σ H s) (g:DGet H a y (some v)) (ry:RelV y u) (h:∀w' s',Inv X pins σ H s'->RelV v w'->Q w' s'):
  wpAny (model X.prog X.w) A (getItem (.ref a) u) Q E s:=by
 rcases g with ⟨kvs,k,e,ey,l⟩ | ⟨kvs,k,b,e,ey,eb,l⟩
 ·subst ey
  obtain⟨z,hd,vs,rel,dd⟩:=kYl I.hok e
  obtain⟨w',hw,rw'⟩:=RelO.some_of (v:=v) (o:=valueAt vs k) (by rw[l];exact rel.val k)
  exact wpAny_getItem_of (kJq ry) dd.mapOf hw (h w' _ (I.tok _) rw')
 ·subst ey
  cases (show u=Value.ref b from ry)
  obtain⟨z,hd,xs,rel,dd⟩:=kYj I.hok e
  obtain⟨w',hw,rw'⟩:=RelO.some_of (v:=v) (o:=(atKey xs k).map (·.2)) (by rw[l];exact rel.val k)
  obtain⟨p,hp,hp2⟩:=Option.map_eq_some_iff.mp hw
  refine wpAny_getItem_heap (jKg hu) (kKf I.hok eb) dd hp ?_
  rw[hp2]
  exact h w' _ (I.tok _) rw'
theorem qJw {Q:Value->Shared->Prop} (hu:A.units+20<cLine) (I:Inv X pins σ H s) (g:DGet H a y o) (ry:RelV y u) (h:∀s',Inv X pins σ H s'->Q (.bool (!o.isSome)) s'):
  wpAny (model X.prog X.w) A (compareOp .NotIn u (.ref a)) Q E s:=by
 rcases g with ⟨kvs,k,e,ey,l⟩ | ⟨kvs,k,b,e,ey,eb,l⟩
 ·subst ey
  obtain⟨z,hd,vs,rel,dd⟩:=kYl I.hok e
  refine wpAny_notIn_of (kJq ry) hd dd.mapOf ?_
  rw[<-(rel.val k).isSome_eq,<-l]
  exact h _ (I.tok _)
 ·subst ey
  cases (show u=Value.ref b from ry)
  obtain⟨z,hd,xs,rel,dd⟩:=kYj I.hok e
  refine wpAny_notIn_heap (jKg hu) (kKf I.hok eb) hd dd ?_
  have q:=(rel.val k).isSome_eq
  rw[Option.isSome_map] at q
  rw[<-q,<-l]
  exact h _ (I.tok _)
theorem kJw {h':Heap} {t':Nat} {ob:HO} (I:Inv X pins σ H s) (mu:Mut (H a)) (hs:Heap.SameBut a s.heap h') (he:∃q,h'.get? a=some q) (new:ObjOk X.prog X.w (upd H a ob) h' a ob):
  Inv X pins σ (upd H a ob) {s with heap:=h',toks:=t'}:=
 I.write (x:=a) (e:=a) mu (.inl rfl) (fun b q hb z=>(hs.2 b hb).trans z) he new
theorem kZg {P:Program} {w:World} {H':Hp} {h':Heap} {kvs:List (Key×V)} {vs:List (Key×Value)} (z:kvs.length<=sizeLine) (hd:(a == sysModules)=false) (rel:KV kvs vs) (dd:h'.DictOf (jJ9 P w) a vs):
  ObjOk P w H' h' a (.dK kvs):=⟨z,hd,vs,rel,dd⟩
theorem jZl {H':Hp} {Q:Unit->Shared->Prop} (hu:A.units+20<cLine) (I:Inv X pins σ H s) (g:DPut H a y v H') (ry:RelV y u) (rv:RelV v r) (h:∀s',Inv X pins σ H' s'->Q () s'):
  wpAny (model X.prog X.w) A (setItem (.ref a) u r) Q E s:=by
 rcases g with ⟨kvs,k,e,ey,l,eH⟩ | ⟨kvs,k,b,e,ey,eb,l,eH⟩
 ·subst ey eH
  obtain⟨z,hd,vs,rel,dd⟩:=dk_of I.hok e
  have hz:vs.length<=sizeLine:=by rw[<-rel.length];exact z
  have hl:(putK kvs k v).length<=sizeLine:=by have:=jV6 kvs k v;omega
  refine wpAny_setItem_pairs (hsz:=hz) (kJq ry) dd fun h' dd' hs=>h _ ?_
  have he:∃q,h'.get? a=some q:=let ⟨q,_,_,hq,_⟩:=dd';⟨q,hq⟩
  exact kJw I (by rw[e];exact True.intro) hs he (kZg hl hd (rel.put k rv) dd')
 ·subst ey eH
  cases (show u=Value.ref b from ry)
  obtain⟨z,hd,xs,rel,dd⟩:=dt_of I.hok e
  have hz:xs.length<=sizeLine:=by rw[<-Paired.length rel];exact z
  have hl:(putK kvs k v).length<=sizeLine:=by have:=jV6 kvs k v;omega
  refine wpAny_setItem_heap (hsz:=hz) (jKg hu) (kKf I.hok eb) dd fun h' dd' hs=>h _ ?_
  obtain⟨q,es,ep,hq,h2,h3,h4,_,h5⟩:=dd'
  refine kJw I (by rw[e];exact True.intro) hs ⟨q,hq⟩ ⟨hl,hd,_,(rel.put k eb rv).keeps fun c ys ec=> ?_,q,es,ep,hq,h2,h3,h4,h5⟩
  rw[jJs (ne_of ec e (fun z=>nomatch z))]
  exact ec
end
section
variable {X:Cx} {pins:List (Addr×Obj)} {σ:St} {H:Hp} {s:Shared} {a:Addr} {kvs:List (Key×V)} {k:Key} {u:Value} {A:Around} {E:Value->Shared->Prop}
end
theorem kJv {X:Cx} {pins:List (Addr×Obj)} {σ:St} {H:Hp} {s:Shared} {a:Addr} {y:V} {o:Option V} (I:Inv X pins σ H s) (g:DGet H a y o):s.TypeIs (.ref a) "dict":=by
 rcases g with ⟨kvs,k,e,_,_⟩ | ⟨kvs,k,b,e,_,_,_⟩
 ·obtain⟨_,_,vs,_,dd⟩:=kYl I.hok e
  exact dd.typeIs
 ·obtain⟨_,_,xs,_,dd⟩:=kYj I.hok e
  exact dd.typeIs
section
variable {X:Cx} {o i e value:Expr} {pos pos' tpos:Pos} {td ty tv:TE}
end
theorem kKq {P:Program} {w:World} {H:Hp} (h:Heap) (hb:sysModules<h.objs.size):ObjOk P w H (h.push {cls:= .type "dict",data:= .dict #[]}) h.objs.size (.dK []):=
 ⟨Nat.zero_le _,beq_eq_false_iff_ne.mpr (Ne.symm (Nat.ne_of_lt hb)),[],.nil,Heap.DictOf.new h⟩
theorem kYk {P:Program} {w:World} {H:Hp} (h:Heap) (hb:sysModules<h.objs.size):ObjOk P w H (h.push {cls:= .type "dict",data:= .dict #[]}) h.objs.size (.dT []):=
 ⟨Nat.zero_le _,beq_eq_false_iff_ne.mpr (Ne.symm (Nat.ne_of_lt hb)),[],.nil,_,#[],0,Heap.get?_push_size _ rfl,⟨rfl,rfl,rfl⟩,rfl,rfl,List.nodup_nil⟩
def tDNewK:TE:=fun _ H Q=>∀p,H p=none->Q (.ref p) (upd H p (.dK []))
def tDNewT:TE:=fun _ H Q=>∀p,H p=none->Q (.ref p) (upd H p (.dT []))
section
variable {X:Cx} {pos:Pos}
theorem kXo:PE X (.Dict [] [] pos) tDNewK:=fun pins s σ H Q I h=>
 wpAny_Dict_empty ⟨.ref s.heap.objs.size,_,I.laid (a:=s.heap.objs.size) (o:= .dK []) (t':=s.toks) (fun _ _ q=>Heap.get?_push_of_some _ q) (Nat.le_refl _) (kKq s.heap I.big),rfl,h _ (I.hok.fresh (Nat.le_refl _))⟩
theorem kXn:PE X (.Dict [] [] pos) tDNewT:=fun pins s σ H Q I h=>
 wpAny_Dict_empty ⟨.ref s.heap.objs.size,_,I.laid (a:=s.heap.objs.size) (o:= .dT []) (t':=s.toks) (fun _ _ q=>Heap.get?_push_of_some _ q) (Nat.le_refl _) (kYk s.heap I.big),rfl,h _ (I.hok.fresh (Nat.le_refl _))⟩
end
abbrev VV:List (V×V)->List (Value×Value)->Prop:=Paired fun p q=>RelV p.1 q.1/\RelV p.2 q.2
def mergeK (kvs more:List (Key×V)):List (Key×V):=more.foldl (fun acc kv=>putK acc kv.1 kv.2) kvs
theorem KV.merge:∀ {more:List (Key×V)} {rs:List (Key×Value)} {kvs:List (Key×V)} {vs:List (Key×Value)},KV more rs->KV kvs vs->KV (mergeK kvs more) (merged vs rs):=by
 intro more rs kvs vs r
 unfold KV at r
 induction r generalizing kvs vs with
 | nil=>intro q;exact q
 | @cons p q ps qs h t ih=>
  intro r0
  have e:KV (putK kvs p.1 p.2) (stored vs q.1 q.2):=by
   have:=r0.put p.1 h.2
   rw[<-h.1];exact this
  exact ih e
theorem jX4 {P:Program} {w:World}:∀ {kvs:List (Key×V)} {ws:List (Value×Value)},VV (kvs.map fun kv=>(kV kv.1,kv.2)) ws->∃rs,Carries (jJ9 P w) ws rs/\KV kvs rs
 | [],_,r=>by rw[List.map_nil] at r;cases r;exact⟨[],True.intro,.nil⟩
 | p::kvs,_,r=>by
  rw[List.map_cons] at r
  cases r with
  | @cons a b as bs h t=>
   obtain⟨rs,c,q⟩:=jX4 (P:=P) (w:=w) t
   obtain⟨b1,b2⟩:=b
   exact⟨(p.1,b2)::rs,⟨kJq h.1,rfl,c⟩,.cons ⟨rfl,h.2⟩ q⟩
section
variable {X:Cx} {pins:List (Addr×Obj)} {σ:St} {H:Hp} {s:Shared} {a:Addr} {y d:V} {u r:Value} {o:Option V} {A:Around} {E:Value->Shared->Prop}
end
section
variable {X:Cx} {o e f:Expr} {apos cpos:Pos} {td ty tx:TE}
end
section
variable {X:Cx} {pins:List (Addr×Obj)} {σ:St} {H:Hp} {s:Shared} {a:Addr} {kvs:List (Key×V)} {A:Around} {E:Value->Shared->Prop}
end
section
variable {X:Cx} {pins:List (Addr×Obj)} {σ:St} {H:Hp} {s:Shared} {a:Addr} {y:V} {u:Value} {A:Around} {E:Value->Shared->Prop}
end
end L2
namespace Att
open PySem PySem.W PySem.Calls PyProof.Rows
theorem jV8 {P:Params} {h:Heap}:∀(ns:List Int) (vs:List Value),WellAll P h vs (ns.map WData.int)->IntsAre vs ns:=by
 intro ns
 induction ns with
 | nil=>
  intro vs w
  rw[List.map_nil] at w
  cases w
  exact .nil
 | cons n ns ih=>
  intro vs w
  rw[List.map_cons] at w
  cases w with
  | cons a b=>
   cases a
   exact .cons _ _ (ih _ b)
theorem kQ2 {l:OpenLaw} {n:Nat} (hn:l.most=some n) {P:Params} {h:Heap} {args:List WData} {vals:List Value}
  (hpre:l.row.toRowW.claim.pre args=true) (hwl:WellAll P h vals args):
  ∃a vs ns,vals=[Value.ref a]/\args=[WData.list (ns.map WData.int)]/\h.get? a=some {cls:= .type "list",data:= .seq vs.toArray}/\IntsAre vs ns/\ns.length<=n:=by
 have hsh:WShape.hasAll [] args [.list .int]=true:=(pre_splitW hpre).1
 have hc:l.pre.holds [] {args:=args}=true:=(pre_splitW hpre).2
 obtain⟨d,r,rfl,h1,h2⟩:=hasAllW_cons hsh
 obtain rfl:=hasAllW_nil h2
 obtain⟨xs,rfl,h3⟩:=hasW_list h1
 obtain⟨ns,rfl⟩:=items_int h3
 have hlen:ns.length<=n:=by
  unfold OpenLaw.pre at hc
  have h4:(WTm.not (.lt (.lit (.int (n:Int))) (.len (.arg 0)))).holds [] {args:=[.list (ns.map .int)]}=true:=by
   have h4:=(holds_andW hc).1
   rw[hn] at h4
   exact h4
  have h5:=condW_of h4 (w_not (w_lt w_lit (w_len_list (w_arg rfl))))
  rw[List.length_map] at h5
  refine Nat.le_of_not_lt fun q=> ?_
  have q':(n:Int)<((ns.length:Nat):Int):=by omega
  first
   | (rw[decide_eq_true q'] at h5;exact absurd h5 (by decide))
   | (simp at h5;omega)
 cases hwl with
 | cons w1 w2=>
  cases w2
  cases w1 with
  | list ho hall=>exact⟨_,_,ns,rfl,rfl,ho,jV8 ns _ hall,hlen⟩
theorem kUg (l:OpenLaw) (args:List WData):l.row.toRowW.claim.post args (.bool true) args=true:=
 postW_of (r:=l.row.toRowW) (X:=(true == true))
  (show WShape.has [] (.bool true) .bool=true by first | rfl | decide | simp[WShape.has,WShape.arms,WShape.armsAll])
  (show (WTm.eq .res (.lit (.bool true))).value [] {args:=args,res:=some (.bool true),after:=args}=some (.bool (true == true)) from w_eq_bool (w_res rfl) w_lit) rfl
theorem attach_call {l:OpenLaw} {n:Nat} {q:Program} {loose:List Str} {XP:(Str->Option Value)->Heap->Prop} {YP:World->Heap->Prop} {d:DefRec}
  (hn:l.most=some n) (hdf:d.params.defaults=[])
  (call:∀(w:World) (s₀ s₁:Shared) (mg mb:Str->Option Value) (fa:Addr) (o:Obj) (pm cd doc:Value) (a:Addr) (vs:List Value) (ns:List Int),
   Ground q loose [] XP w s₀ mg mb s₁.heap->YP w s₁.heap->
   s₁.heap.get? fa=some o->o.data= .func (docDef d.name d.params d.body d.scope pm cd doc)->s₁.heap.CodeRec cd d.name->mg d.name=some (.ref fa)->
   s₁.heap.get? a=some {cls:= .type "list",data:= .seq vs.toArray}->IntsAre vs ns->ns.length<=n->s₁.gens= #[]->
   codeAny (model l.prog w) callerA (.call (.ref fa) ⟨[.ref a],[]⟩) (fun r s'=>r= .ok (.ret (.bool true))/\OldK s₁.heap s'.heap/\s'.os=s₁.os/\AllBare s'.gens) s₁):
  WalkO q loose XP YP l.row.toRowW d [] (fun f vs=>PySem.call f vs):=by
 intro w s₀ s₁ mg mb G Y fa o pm cd doc dV kV ho hd hcd hD hmg hg args vals as hpre hlay hrd hwl hlo
 obtain rfl:dV= .none:=Dflts.none hD hdf
 obtain rfl:kV= .none:=Dflts.noKw hD
 obtain⟨a,vs,ns,rfl,rfl,hobj,hints,hlen⟩:=kQ2 hn hpre hwl
 refine enter_call (codeAny_mono (call w s₀ s₁ mg mb fa o pm cd doc a vs ns G Y ho (fd_plain hd) hcd hmg hobj hints hlen hg) fun r s' hq=> ?_)
 obtain⟨rfl,h2,h3,h4⟩:=hq
 exact⟨.inl ⟨.bool true,.bool true,[],rfl,fun _=>rfl,.bool true,kUg l _,fun _=>⟨List.Pairwise.nil,fun _ hm=>(nomatch hm)⟩⟩,h2,h3,h4⟩
section
variable {prog:Program} {w:World} {A:Around} {E:Value->Shared->Prop} {s:Shared} {K:Frag}
end
end Att
namespace L2
open PySem PySem.Spec PyProof.Rows
theorem jY1:∀ {vs:List Value} {ns:List Int},IntsAre vs ns->Vals (ns.map V.int) vs
 | _,_,.nil=> .nil
 | _,_,.cons n t h=> .cons ⟨t,rfl⟩ (jY1 h)
def Only (H:Hp):Prop:=∀b,H b=none\/∃o xs,H b=some (.frz o (.lst xs))
theorem kX1 {P:Program} {w:World} {K:PySem.W.Frag} {mg mb:Str->Option Value} {CX:CXT} {k:Nat} {fa a:Addr} {fd:FuncData} {x:Str} {sp:Sp} {s₁:Shared} {vs:List Value} {ns:List Int}
  (KX:K.In s₁.heap) (hns:s₁.heap.Ns mainGlobals mg) (hb:s₁.heap.Ns builtinsNs mb) (hbb:∀x:Str,x≠"__name__"->mb x=bootBuiltins x) (hlim:s₁.heap.NoLimit) (hg:s₁.gens= #[])
  (ha:s₁.heap.get? a=some {cls:= .type "list",data:= .seq vs.toArray}) (hi:IntsAre vs ns) (hl:ns.length<=sizeLine) (hr:Room k callerA)
  (F:∀base:Heap,K.In base->base.Ns mainGlobals mg->FnOk P w K mg base CX k fa fd [x] sp) (hbind:∀(s:Shared) (u:Value),BindsTo s fd ⟨[u],[]⟩ [(x,u)])
  (hsp:∀H:Hp,Only H->SqL K H a (ns.map V.int)->sp [.ref a] H (fun v _=>v= .bl true) fun _ _ _=>False)
  (hCX:∀H e s',CX [] H s₁ (fun _ _ _=>False) e s'->False):
  codeAny (model P w) callerA (.call (.ref fa) ⟨[.ref a],[]⟩) (fun r s'=>r= .ok (.ret (.bool true))/\OldK s₁.heap s'.heap/\s'.os=s₁.os/\AllBare s'.gens) s₁:=by
 have rv:=jY1 hi
 have lenV:=hi.length
 have core:∀H:Hp,Only H->SqL K H a (ns.map V.int)->HOk P w H s₁.heap->(∀b,H b≠none->b=a)->(H a≠none->K.lookup a=none)->
   codeAny (model P w) callerA (.call (.ref fa) ⟨[.ref a],[]⟩) (fun r s'=>r= .ok (.ret (.bool true))/\OldK s₁.heap s'.heap/\s'.os=s₁.os/\AllBare s'.gens) s₁:=by
  intro H hO hS hok hA hK
  have base_of:∀ {b:Addr} {o:Obj},s₁.heap.get? b=some o->H b=none->(hidT s₁.heap H).get? b=some o:=fun e n=>kYc e n
  have noA:∀ {b:Addr} {o:Obj} {es:Array DictEntry} {ep:Nat},s₁.heap.get? b=some o->o.data= .dict es ep->H b=none:=fun {b o es ep} e d=>by
   cases q:H b with
   | none=>rfl
   | some u=>
    have e':b=a:=hA b (by rw[q];simp)
    subst e'
    rw[ha] at e;cases e
    have d':Data.seq vs.toArray _=Data.dict es ep:=d
    cases d'
  have nsK:∀ {b:Addr} {m:Str->Option Value},s₁.heap.Ns b m->(hidT s₁.heap H).Ns b m:=fun {b m} ⟨o,es,ep,e,d,r⟩=>⟨o,es,ep,base_of e (noA e d),d,r⟩
  have hKb:K.In (hidT s₁.heap H):=fun b o e=>base_of (KX b o e) (by
   cases q:H b with
   | none=>rfl
   | some u=>
    have e':b=a:=hA b (by rw[q];simp)
    subst e'
    rw[hK (by rw[q];simp)] at e;cases e)
  have hM:Mod K mg (hidT s₁.heap H):=⟨hKb,nsK hns,⟨mb,nsK hb,hbb⟩,let ⟨mc,h1,h2⟩:=hlim;⟨mc,nsK h1,h2⟩⟩
  have e0:Env0 P w K mg (hidT s₁.heap H) callerA [] s₁ H:=⟨rfl,hM,fun b o e=>kZ5 e,Nat.le_of_eq (kU2 _ _),trivial,fun b hb=>absurd (show b∈([]:List Addr) from hb) (by simp),hok,.of_eq hg⟩
  refine codeAny_mono ((F _ hKb (nsK hns)).run callerA [] s₁ H ⟨[.ref a],[]⟩ [.ref a] [.ref a] _ _ hr e0 (hbind s₁ (.ref a)) (.cons rfl .nil) (hsp H hO hS)) fun r s' h=> ?_
  cases r with
  | error e=>exact (hCX H e s' h).elim
  | ok fl=>
   cases fl with
   | next=>exact False.elim h
   | brk=>exact False.elim h
   | cont=>exact False.elim h
   | ret u=>
    obtain⟨v,H',os,bare,un,hok',r',q⟩:=h
    have q':v= .bl true:=q
    subst q'
    obtain rfl:u=Value.bool true:=r'
    refine⟨rfl,OldK.of_keep fun b o e=> ?_,os,bare⟩
    cases q:H b with
    | none=>exact un.keep b o e q (by intro z;exact absurd (show b∈([]:List Addr) from z) (by simp)) (by simp)
    | some u=>
     rcases hO b with z | ⟨ob,xs,z⟩
     ·rw[q] at z;cases z
     ·have z2:=un.frzs b ob _ z
      obtain⟨e1,_⟩:=hok b _ z
      obtain⟨e2,_⟩:=hok' b _ z2
      rw[e] at e1;cases e1
      exact e2
 cases hk:K.lookup a with
 | some o=>
  have e:=KX a o hk
  rw[ha] at e
  cases e
  refine core (fun _=>none) (fun _=> .inl rfl) (.inr ⟨_,vs.toArray,_,hk,rfl,rfl,rfl,by rw[List.size_toArray,lenV];exact hl,by simpa using rv⟩) (fun b u z=>by have z':(none:Option HO)=some u:=z;cases z') (fun b z=>absurd rfl z) fun z=>absurd rfl z
 | none=>
  refine core (fun b=>if b=a then some (.frz {cls:= .type "list",data:= .seq vs.toArray} (.lst (ns.map V.int))) else none) (fun b=> ?_) (.inl (.inr ⟨{cls:= .type "list",data:= .seq vs.toArray},if_pos rfl⟩)) (fun b u z=> ?_) (fun b z=> ?_) fun _=>hk
  ·by_cases hb:b=a
   ·exact .inr ⟨_,_,if_pos hb⟩
   ·exact .inl (if_neg hb)
  ·by_cases hb:b=a
   ·have z':=(if_pos hb).symm.trans z
    cases z'
    subst hb
    exact⟨ha,by rw[List.length_map];exact hl,vs,_,rv,ha⟩
   ·have z':=(if_neg hb).symm.trans z
    cases z'
  ·by_cases hb:b=a
   ·exact hb
   ·exact absurd (if_neg hb) z
theorem walk_of {l:PySem.W.OpenLaw} {n k:Nat} {q:Program} {loose:List Str} {XP:(Str->Option Value)->Heap->Prop} {YP:World->Heap->Prop} {d:DefRec} {K:Params->PySem.W.Frag} {CX:World->CXT} {sp:World->Sp} {x:Str}
  (hn:l.most=some n) (hn2:n<=sizeLine) (hdf:d.params.defaults=[]) (hr:Room k callerA)
  (hY:∀(w:World) (h:Heap),YP w h->(K w.params).In h)
  (F:∀(w:World) (mg:Str->Option Value) (fa:Addr) (h:Heap),(K w.params).In h->h.Ns mainGlobals mg->mg d.name=some (.ref fa)->
   ∃fd:FuncData,(∀(s:Shared) (u:Value),BindsTo s fd ⟨[u],[]⟩ [(x,u)])/\
    ∀base:Heap,(K w.params).In base->base.Ns mainGlobals mg->FnOk l.prog w (K w.params) mg base (CX w) k fa fd [x] (sp w))
  (hsp:∀(w:World) (H:Hp) (a:Addr) (ns:List Int),ns.length<=n->Only H->SqL (K w.params) H a (ns.map V.int)->sp w [.ref a] H (fun v _=>v= .bl true) fun _ _ _=>False)
  (hCX:∀(w:World) (H:Hp) (s:Shared) (e:Value) (s':Shared),CX w [] H s (fun _ _ _=>False) e s'->False):
  PySem.W.WalkO q loose XP YP l.row.toRowW d [] (fun f vs=>PySem.call f vs):=by
 refine Att.attach_call hn hdf fun w s₀ s₁ mg mb fa o pm cd doc a vs ns G Y ho hd hcd hmg hobj hints hlen hg=> ?_
 have KX:=hY w _ Y
 obtain⟨fd,hb,hF⟩:=F w mg fa _ KX G.T.g hmg
 exact kX1 KX G.T.g G.T.b G.T.builtins G.T.nolimit hg hobj hints (Nat.le_trans hlen hn2) hr hF hb (fun H hO hS=>hsp w H a ns hlen hO hS) fun H e s'=>hCX w H s₁ e s'
noncomputable def jUi (s:Stmt):Arguments:=match s with
 | .FunctionDef _ a _ _ _ _ _ _ _ _=>a
 | _=>{posonlyargs:=[],args:=[],vararg:=none,kwonlyargs:=[],kw_defaults:=[],kwarg:=none,defaults:=[]}
def jKv (s:Stmt):List Stmt:=match s with
 | .FunctionDef _ _ b _ _ _ _ _ _ _=>b
 | _=>[]
def jJo (s:Stmt):Scope:=match s with
 | .FunctionDef _ _ _ _ _ _ sc _ _ _=>sc
 | _=>{kind:= .function,names:=[],isGenerator:=false,isCoroutine:=false}
abbrev CX0:CXT:=fun _ _ _ _ _ _=>False
abbrev E0:XK:=fun _ _ _=>False
theorem pass0 {X:Cx}:kZk CX0 X E0:=fun _ _ _ _ _ _ _ h=>h.elim
structure Fun (K:PySem.W.Frag) (x qual:Str) (st:Stmt) (f:Addr) (fd:FuncData):Prop where
 ex:∃(oc:Value) (od:Option Addr) (kV doc pm:Value) (an:Option Addr) (cdv ct:Value) (osl:Array (Option Value)),
  fd=PySem.W.fnOf x qual (jUi st) (jKv st) (jJo st) .none kV doc pm an cdv ct/\K.lookup f=some ⟨oc,od,.func fd,osl⟩/\PySem.W.codeIn K cdv qual=true
 kp:PySem.W.keepIn K (.ref f)=true
section
variable {P:Program} {w:World} {K:PySem.W.Frag} {mg:Str->Option Value} {base:Heap}
theorem Fun.ok {x qual:Str} {st:Stmt} {f:Addr} {fd:FuncData} {N ps:List Str} {k:Nat} {sp:Sp} (F:Fun K x qual st f fd) (S:FnScope N ps (jJo st)) (len:∀vs H Q E,sp vs H Q E->vs.length=ps.length)
  (hbody:∀(cdv:Value) (A:Around) (outer:List Env) (s:Shared) (H:Hp) (vs:List V) (Q:VK) (E:XK),Room k (A.deeper (envOfC qual (jJo st) s.heap.objs.size f cdv))->sp vs H Q E->
   ∃t,PSs (cxOf CX0 P w K mg base N qual (jJo st) f cdv A outer s H E).nox (jKv st) t/\t {nx:=fun _ H'=>Q .non H',rt:=Q} (start N vs) H):FnOk P w K mg base CX0 (k+1) f fd ps sp:=by
 obtain⟨oc,od,kV,doc,pm,an,cdv,ct,osl,rfl,lk,hcd⟩:=F.ex
 refine fn_of lk hcd S len fun A outer s H vs Q E hr hsp=> ?_
 obtain⟨t,h,q⟩:=hbody cdv A outer s H vs Q E hr hsp
 exact⟨t,h.nox,q⟩
theorem Fun.binds {x qual:Str} {st:Stmt} {f:Addr} {fd:FuncData} {ps:List Str} (F:Fun K x qual st f fd)
  (h:∀(kV doc pm:Value) (an:Option Addr) (cdv ct:Value) (us:List Value),us.length=ps.length->bindArgs (PySem.W.fnOf x qual (jUi st) (jKv st) (jJo st) .none kV doc pm an cdv ct) ⟨us,[]⟩=pure (ps.zip us)):Binds K fd ps []:=by
 obtain⟨oc,od,kV,doc,pm,an,cdv,ct,osl,rfl,lk,hcd⟩:=F.ex
 exact .all (h kV doc pm an cdv ct)
theorem fun_mk {x qual:Str} {st:Stmt} {f:Addr} {oc:Value} {od an:Option Addr} {osl:Array (Option Value)} {kV doc pm cdv ct:Value} (l:K.lookup f=some ⟨oc,od,.func (PySem.W.fnOf x qual (jUi st) (jKv st) (jJo st) .none kV doc pm an cdv ct),osl⟩)
  (c:PySem.W.codeIn K cdv qual=true) (k:PySem.W.keepIn K (.ref f)=true):Fun K x qual st f (PySem.W.fnOf x qual (jUi st) (jKv st) (jJo st) .none kV doc pm an cdv ct):=⟨⟨oc,od,kV,doc,pm,an,cdv,ct,osl,rfl,l,c⟩,k⟩
end
theorem qJo {A:Around} {k:Nat} (hr:Room k A):A.units+20<cLine:=Nat.lt_of_le_of_lt (Nat.add_le_add_left (by decide:20<=64) _) hr.units
section
variable {X:Cx}
end
end L2
set_option Elab.async false
set_option linter.all false
set_option maxRecDepth 100000
set_option maxHeartbeats 5000000
namespace L3
open PySem PySem.Spec PyProof.Rows L2
inductive T where
 | non | bl (b:Bool) | int (i:Int) | str (x:Str) | tup (xs:List T) | scr (xs:List T) | ref (a:Addr) | ty (n:String)
structure Ext (H H':Hp):Prop where
 tup:∀b xs,H b=some (.tup xs)->H' b=some (.tup xs)
 frz:∀b ob u,H b=some (.frz ob u)->H' b=some (.frz ob u)
theorem Ext.refl (H:Hp):Ext H H:=⟨fun _ _ h=>h,fun _ _ _ h=>h⟩
theorem Ext.trans {H H1 H2:Hp} (a:Ext H H1) (b:Ext H1 H2):Ext H H2:=⟨fun c o h=>b.tup c o (a.tup c o h),fun c o u h=>b.frz c o u (a.frz c o u h)⟩
noncomputable def FrL (K:PySem.W.Frag) (H:Hp) (a:Addr) (xs:List V):Prop:=
 (∃ob,H a=some (.frz ob (.lst xs)))\/
  ∃(o:Obj) (its:Array Value) (n:Nat),K.lookup a=some o/\o.cls= .type "list"/\o.dict=none/\o.data= .seq its n/\its.size<=sizeLine/\Vals xs its.toList
theorem FrL.sq {K:PySem.W.Frag} {H:Hp} {a:Addr} {xs:List V} (h:FrL K H a xs):SqL K H a xs:=by
 rcases h with ⟨ob,h⟩ | h
 ·exact .inl (.inr ⟨ob,h⟩)
 ·exact .inr h
theorem FrL.mono {K:PySem.W.Frag} {H H':Hp} {a:Addr} {xs:List V} (e:Ext H H') (h:FrL K H a xs):FrL K H' a xs:=by
 rcases h with ⟨ob,h⟩ | h
 ·exact .inl ⟨ob,e.frz _ _ _ h⟩
 ·exact .inr h
mutual
noncomputable def Rep (K:PySem.W.Frag) (H:Hp):T->V->Prop
 | .non,v=>v= .non
 | .bl b,v=>v= .bl b
 | .int i,v=>v= .int i
 | .str x,v=>v= .str x
 | .ref a,v=>v= .ref a
 | .ty n,v=>v= .ty n
 | .tup xs,v=>∃a vs,v= .ref a/\H a=some (.tup vs)/\Reps K H xs vs
 | .scr xs,v=>∃a vs,v= .ref a/\FrL K H a vs/\Reps K H xs vs
noncomputable def Reps (K:PySem.W.Frag) (H:Hp):List T->List V->Prop
 | [],vs=>vs=[]
 | x::xs,vs=>∃v ws,vs=v::ws/\Rep K H x v/\Reps K H xs ws
end
mutual
theorem Rep.mono {K:PySem.W.Frag} {H H':Hp} (e:Ext H H'):∀(x:T) {v:V},Rep K H x v->Rep K H' x v
 | .non,_,h=>h
 | .bl _,_,h=>h
 | .int _,_,h=>h
 | .str _,_,h=>h
 | .ref _,_,h=>h
 | .ty _,_,h=>h
 | .tup xs,_,⟨a,vs,r1,r2,r3⟩=>⟨a,vs,r1,e.tup _ _ r2,Reps.mono e xs r3⟩
 | .scr xs,_,⟨a,vs,r1,r2,r3⟩=>⟨a,vs,r1,r2.mono e,Reps.mono e xs r3⟩
theorem Reps.mono {K:PySem.W.Frag} {H H':Hp} (e:Ext H H'):∀(xs:List T) {vs:List V},Reps K H xs vs->Reps K H' xs vs
 | [],_,h=>h
 | x::xs,_,⟨v,ws,r1,r2,r3⟩=>⟨v,ws,r1,Rep.mono e x r2,Reps.mono e xs r3⟩
end
section
variable {K:PySem.W.Frag} {H:Hp}
theorem Reps.length:∀ {xs:List T} {vs:List V},Reps K H xs vs->xs.length=vs.length
 | [],_,h=>by cases h;rfl
 | _::_,_,⟨_,_,r1,_,r3⟩=>by subst r1;simp[Reps.length r3]
theorem Reps.get:∀ {xs:List T} {vs:List V} {i:Nat} {x:T},Reps K H xs vs->xs[i]? =some x->∃v,vs[i]? =some v/\Rep K H x v
 | [],_,_,_,_,e=>by simp at e
 | y::ys,_,0,x,⟨v,ws,r1,r2,r3⟩,e=>by subst r1;simp at e;subst e;exact⟨v,rfl,r2⟩
 | y::ys,_,i+1,x,⟨v,ws,r1,r2,r3⟩,e=>by subst r1;simpa using Reps.get r3 (by simpa using e)
theorem Reps.get':∀ {xs:List T} {vs:List V} {i:Nat} {v:V},Reps K H xs vs->vs[i]? =some v->∃x,xs[i]? =some x/\Rep K H x v
 | [],_,_,_,h,e=>by cases h;simp at e
 | y::ys,_,0,x,⟨v,ws,r1,r2,r3⟩,e=>by subst r1;simp at e;subst e;exact⟨y,rfl,r2⟩
 | y::ys,_,i+1,x,⟨v,ws,r1,r2,r3⟩,e=>by subst r1;simpa using Reps.get' r3 (by simpa using e)
theorem Reps.append:∀ {xs ys:List T} {vs ws:List V},Reps K H xs vs->Reps K H ys ws->Reps K H (xs++ys) (vs++ws)
 | [],_,_,_,h,h2=>by cases h;exact h2
 | _::_,_,_,_,⟨v,ws,r1,r2,r3⟩,h2=>by subst r1;exact⟨v,_,rfl,r2,Reps.append r3 h2⟩
theorem Reps.one {x:T} {v:V} (r:Rep K H x v):Reps K H [x] [v]:=⟨v,[],rfl,r,rfl⟩
theorem Reps.set {x:T} {v:V} (r:Rep K H x v):∀ {xs:List T} {vs:List V} (i:Nat),Reps K H xs vs->Reps K H (xs.set i x) (vs.set i v)
 | [],_,_,e=>by cases e;rfl
 | _::_,_,0,⟨_,ws,r1,r2,r3⟩=>by subst r1;exact⟨v,ws,rfl,r,r3⟩
 | _::_,_,i+1,⟨u,ws,r1,r2,r3⟩=>by subst r1;exact⟨u,_,rfl,r2,Reps.set r i r3⟩
theorem Reps.take:∀ {xs:List T} {vs:List V} (n:Nat),Reps K H xs vs->Reps K H (xs.take n) (vs.take n)
 | _,_,0,_=>by simp[Reps]
 | [],_,_+1,h=>by cases h;simp[Reps]
 | _::_,_,n+1,⟨u,ws,r1,r2,r3⟩=>by subst r1;exact⟨u,_,rfl,r2,Reps.take n r3⟩
theorem Reps.drop:∀ {xs:List T} {vs:List V} (n:Nat),Reps K H xs vs->Reps K H (xs.drop n) (vs.drop n)
 | _,_,0,h=>h
 | [],_,_+1,h=>by cases h;simp[Reps]
 | _::_,_,n+1,⟨u,ws,r1,r2,r3⟩=>by subst r1;exact Reps.drop n r3
theorem Reps.rep {xs:List T} {vs:List V} (r:Reps K H xs vs):∀n:Nat,Reps K H (List.replicate n xs).flatten (List.replicate n vs).flatten
 | 0=>by simp[Reps]
 | n+1=>by simpa[List.replicate_succ] using r.append (Reps.rep r n)
theorem Reps.atI {xs:List T} {vs:List V} {i:Int} {x:T} (r:Reps K H xs vs) (h:atI xs i=some x):∃v,atI vs i=some v/\Rep K H x v:=by
 unfold L2.atI at h ⊢
 rw[<-r.length]
 cases e:ixN xs.length i with
 | none=>rw[e] at h;cases h
 | some j=>rw[e] at h;exact r.get h
end
inductive GO where
 | lst (xs:List T) | dct (kvs:List (TKey×T)) | dck (kvs:List (Key×T)) | fdc (kvs:List (TKey×T)) | ins (cn:Str) (fs:List (Str×T)) | exc (cn:Str)
abbrev Gp:=Addr->Option GO
def gup (G:Gp) (a:Addr) (o:GO):Gp:=fun b=>if b=a then some o else G b
theorem jJh {G:Gp} {a:Addr} {o:GO}:gup G a o a=some o:=by simp[gup]
theorem jJn {G:Gp} {a b:Addr} {o:GO} (h:b≠a):gup G a o b=G b:=by simp[gup,h]
theorem kU3 {G:Gp} {a:Addr} {o o':GO}:gup (gup G a o) a o'=gup G a o':=by funext b;by_cases h:b=a<;>simp[gup,h]
def asL:Option GO->Option (List T)
 | some (.lst xs)=>some xs
 | _=>none
def seqT (G:Gp):T->Option (List T)
 | .tup xs=>some xs
 | .scr xs=>some xs
 | .ref a=>asL (G a)
 | _=>none
def PKV {κ:Type} (K:PySem.W.Frag) (H:Hp):List (κ×T)->List (κ×V)->Prop:=Paired fun p q=>p.1=q.1/\Rep K H p.2 q.2
noncomputable def GOk (K:PySem.W.Frag) (H:Hp) (a:Addr):GO->Prop
 | .lst xs=>∃vs,H a=some (.lst vs)/\Reps K H xs vs
 | .dct kvs=>∃ws,H a=some (.dT ws)/\PKV K H kvs ws
 | .dck kvs=>∃ws,H a=some (.dK ws)/\PKV K H kvs ws
 | .fdc kvs=>∃ob ws,H a=some (.frz ob (.dT ws))/\PKV K H kvs ws
 | .ins cn fs=>∃C dx ws,H a=some (.ins C dx ws)/\PySem.W.nsIn K mainGlobals cn=some (some (.ref C))/\PKV K H fs ws
 | .exc cn=>∃ob C u,H a=some (.frz ob u)/\ob.cls= .ref C/\PySem.W.nsIn K mainGlobals cn=some (some (.ref C))
def GRel (K:PySem.W.Frag) (H:Hp) (G:Gp):Prop:=∀a o,G a=some o->GOk K H a o
section
variable {K:PySem.W.Frag} {H H':Hp} {G:Gp} {a:Addr}
theorem PKV.mono {κ:Type} {kvs:List (κ×T)} {ws:List (κ×V)} (e:Ext H H') (h:PKV K H kvs ws):PKV K H' kvs ws:=Paired.mapP h fun _ _ z=>⟨z.1,Rep.mono e _ z.2⟩
theorem GOk.move {o:GO} (h:GOk K H a o) (e:Ext H H') (ha:H' a=H a):GOk K H' a o:=by
 cases o with
 | lst xs=>obtain⟨vs,h1,h2⟩:=h;exact⟨vs,ha.trans h1,Reps.mono e _ h2⟩
 | dct kvs=>obtain⟨vs,h1,h2⟩:=h;exact⟨vs,ha.trans h1,h2.mono e⟩
 | dck kvs=>obtain⟨vs,h1,h2⟩:=h;exact⟨vs,ha.trans h1,h2.mono e⟩
 | fdc kvs=>obtain⟨ob,vs,h1,h2⟩:=h;exact⟨ob,vs,ha.trans h1,h2.mono e⟩
 | ins cn fs=>obtain⟨C,dx,ws,h1,h2,h3⟩:=h;exact⟨C,dx,ws,ha.trans h1,h2,h3.mono e⟩
 | exc cn=>obtain⟨ob,C,u,h1,h2,h3⟩:=h;exact⟨ob,C,u,ha.trans h1,h2,h3⟩
theorem GOk.some {o:GO} (h:GOk K H a o):H a≠none:=by
 cases o with
 | lst xs=>obtain⟨vs,h1,h2⟩:=h;rw[h1];simp
 | dct kvs=>obtain⟨vs,h1,h2⟩:=h;rw[h1];simp
 | dck kvs=>obtain⟨vs,h1,h2⟩:=h;rw[h1];simp
 | fdc kvs=>obtain⟨ob,vs,h1,h2⟩:=h;rw[h1];simp
 | ins cn fs=>obtain⟨C,dx,ws,h1,h2,h3⟩:=h;rw[h1];simp
 | exc cn=>obtain⟨ob,C,u,h1,h2,h3⟩:=h;rw[h1];simp
theorem GRel.fresh (g:GRel K H G) (h:H a=none):G a=none:=by
 cases e:G a with
 | none=>rfl
 | some o=>exact absurd h (g a o e).some
def Soft (o:Option HO):Prop:=o=none\/(∃xs,o=some (.lst xs))\/(∃kvs,o=some (.dK kvs))\/(∃kvs,o=some (.dT kvs))\/∃C dx fs,o=some (.ins C dx fs)
theorem Ext.upd {o:HO} (h:Soft (H a)):Ext H (L2.upd H a o):=by
 refine⟨fun b xs e=> ?_,fun b ob u e=> ?_⟩
 ·rw[jJs];exact e
  rintro rfl;rw[e] at h;rcases h with h | ⟨_,h⟩ | ⟨_,h⟩ | ⟨_,h⟩ | ⟨_,_,_,h⟩<;>cases h
 ·rw[jJs];exact e
  rintro rfl;rw[e] at h;rcases h with h | ⟨_,h⟩ | ⟨_,h⟩ | ⟨_,h⟩ | ⟨_,_,_,h⟩<;>cases h
theorem GRel.upd {o:HO} {go:GO} (g:GRel K H G) (h:Soft (H a)) (n:GOk K (L2.upd H a o) a go):GRel K (L2.upd H a o) (gup G a go):=by
 intro b u e
 by_cases hb:b=a
 ·subst hb;rw[jJh] at e;cases e;exact n
 ·rw[jJn hb] at e;exact (g b u e).move (Ext.upd h) (jJs hb)
theorem Soft.none (h:H a=none):Soft (H a):= .inl h
theorem Soft.lst {xs:List V} (h:H a=some (.lst xs)):Soft (H a):= .inr (.inl ⟨xs,h⟩)
theorem Soft.dT {xs:List (TKey×V)} (h:H a=some (.dT xs)):Soft (H a):= .inr (.inr (.inr (.inl ⟨xs,h⟩)))
theorem Soft.dK {xs:List (Key×V)} (h:H a=some (.dK xs)):Soft (H a):= .inr (.inr (.inl ⟨xs,h⟩))
theorem GRel.tupNew {vs:List V} (g:GRel K H G) (h:H a=Option.none):GRel K (L2.upd H a (.tup vs)) G:=by
 intro b u e
 have hb:b≠a:=by rintro rfl;exact (g b u e).some h
 exact (g b u e).move (Ext.upd (.none h)) (jJs hb)
theorem Rep.tupNew {xs:List T} {vs:List V} (r:Reps K H xs vs) (h:H a=Option.none):Rep K (L2.upd H a (.tup vs)) (.tup xs) (.ref a):=
 ⟨a,vs,rfl,jJ7,Reps.mono (Ext.upd (.none h)) _ r⟩
theorem GRel.lstNew {xs:List T} {vs:List V} (g:GRel K H G) (r:Reps K H xs vs) (h:Soft (H a)):GRel K (L2.upd H a (.lst vs)) (gup G a (.lst xs)):=
 g.upd h ⟨vs,jJ7,Reps.mono (Ext.upd h) _ r⟩
theorem GRel.lst {xs:List T} (g:GRel K H G) (h:G a=some (.lst xs)):∃vs,H a=some (.lst vs)/\Reps K H xs vs:=g a _ h
end
abbrev St3:=List (Option T)
def SRel (K:PySem.W.Frag) (H:Hp) (σ:L2.St) (τ:St3):Prop:=σ.length=τ.length/\∀(i:Nat) (t:T),τ[i]? =some (some t)->∃v,σ[i]? =some (some v)/\Rep K H t v
theorem SRel.mono {K:PySem.W.Frag} {H H':Hp} {σ:L2.St} {τ:St3} (e:Ext H H') (h:SRel K H σ τ):SRel K H' σ τ:=
 ⟨h.1,fun i t q=>let ⟨v,h1,h2⟩:=h.2 i t q;⟨v,h1,Rep.mono e _ h2⟩⟩
theorem SRel.set {K:PySem.W.Frag} {H:Hp} {σ:L2.St} {τ:St3} {t:T} {v:V} (h:SRel K H σ τ) (i:Nat) (r:Rep K H t v):SRel K H (σ.set i (some v)) (τ.set i (some t)):=by
 refine⟨by simp[h.1],fun j u q=> ?_⟩
 by_cases hj:i=j
 ·subst hj
  have hl:i<τ.length:=by
   rcases Nat.lt_or_ge i τ.length with z | z
   ·exact z
   ·rw[List.getElem?_eq_none (by simpa using z)] at q;cases q
  rw[List.getElem?_set_self hl] at q
  cases q
  exact⟨v,by rw[List.getElem?_set_self (by rw[h.1];exact hl)],r⟩
 ·rw[List.getElem?_set_ne hj] at q ⊢
  exact h.2 j u q
def Inv3 (X:Cx) (pins:List (Addr×Obj)) (τ:St3) (G:Gp) (H:Hp) (s:Shared):Prop:=∃ σ,Inv X pins σ H s/\SRel X.K H σ τ/\GRel X.K H G
abbrev VK3:=T->Gp->Prop
abbrev TE3:=St3->Gp->VK3->Prop
abbrev TT3:=St3->Gp->(Bool->Gp->Prop)->Prop
abbrev TA3:=St3->Gp->(List T->Gp->Prop)->Prop
structure Ends3 where
 nx:St3->Gp->Prop
 rt:VK3
 bk:St3->Gp->Prop:=fun _ _=>False
 ct:St3->Gp->Prop:=fun _ _=>False
abbrev TS3:=Ends3->St3->Gp->Prop
def RU (K:PySem.W.Frag) (H:Hp) (t:T) (u:Value):Prop:=∃v,Rep K H t v/\RelV v u
def RUs (K:PySem.W.Frag) (H:Hp) (ts:List T) (us:List Value):Prop:=∃vs,Reps K H ts vs/\Vals vs us
theorem RU.mono {K:PySem.W.Frag} {H H':Hp} {t:T} {u:Value} (e:Ext H H') (h:RU K H t u):RU K H' t u:=let ⟨v,h1,h2⟩:=h;⟨v,Rep.mono e _ h1,h2⟩
def EP3 (X:Cx) (pins:List (Addr×Obj)) (τ:St3) (H:Hp) (Q:VK3) (u:Value) (s':Shared):Prop:=∃t G' H',Ext H H'/\Inv3 X pins τ G' H' s'/\RU X.K H' t u/\Q t G'
def TP3 (X:Cx) (pins:List (Addr×Obj)) (τ:St3) (H:Hp) (Q:Bool->Gp->Prop) (b:Bool) (s':Shared):Prop:=∃G' H',Ext H H'/\Inv3 X pins τ G' H' s'/\Q b G'
def AP3 (X:Cx) (pins:List (Addr×Obj)) (τ:St3) (H:Hp) (Q:List T->Gp->Prop) (us:List Value) (s':Shared):Prop:=∃ts G' H',Ext H H'/\Inv3 X pins τ G' H' s'/\RUs X.K H' ts us/\Q ts G'
noncomputable def SP3 (X:Cx) (pins:List (Addr×Obj)) (H:Hp) (D:Ends3) (f:Flow) (s':Shared):Prop:=
 match f with
 | .next=>∃ τ' G' H',Ext H H'/\Inv3 X pins τ' G' H' s'/\D.nx τ' G'
 | .brk=>∃ τ' G' H',Ext H H'/\Inv3 X pins τ' G' H' s'/\D.bk τ' G'
 | .cont=>∃ τ' G' H',Ext H H'/\Inv3 X pins τ' G' H' s'/\D.ct τ' G'
 | .ret u=>∃t τ' G' H',Ext H H'/\Inv3 X pins τ' G' H' s'/\RU X.K H' t u/\D.rt t G'
noncomputable def PE3 (X:Cx) (e:Expr) (t:TE3):Prop:=∀(pins:List (Addr×Obj)) (s:Shared) (τ:St3) (G:Gp) (H:Hp) (Q:VK3),Inv3 X pins τ G H s->t τ G Q->wpAny (model X.prog X.w) X.A (eval e X.env) (EP3 X pins τ H Q) X.xe s
noncomputable def PT3 (X:Cx) (e:Expr) (t:TT3):Prop:=∀(pins:List (Addr×Obj)) (s:Shared) (τ:St3) (G:Gp) (H:Hp) (Q:Bool->Gp->Prop),Inv3 X pins τ G H s->t τ G Q->wpAny (model X.prog X.w) X.A (isTrue e X.env (eval e X.env)) (TP3 X pins τ H Q) X.xe s
noncomputable def PW3 (X:Cx) (e:Expr) (t:TT3):Prop:=∀(whole:Sem Value) (pins:List (Addr×Obj)) (s:Shared) (τ:St3) (G:Gp) (H:Hp) (Q:Bool->Gp->Prop),Inv3 X pins τ G H s->t τ G Q->wpAny (model X.prog X.w) X.A (isTrue e X.env whole) (TP3 X pins τ H Q) X.xe s
theorem PW3.pt {X:Cx} {e:Expr} {t:TT3} (h:PW3 X e t):PT3 X e t:=h _
noncomputable def PA3 (X:Cx) (es:List Expr) (t:TA3):Prop:=∀(pos:Pos) (pins:List (Addr×Obj)) (s:Shared) (τ:St3) (G:Gp) (H:Hp) (Q:List T->Gp->Prop),Inv3 X pins τ G H s->t τ G Q->wpAny (model X.prog X.w) X.A (spliced (backTo pos (starEach es X.env))) (AP3 X pins τ H Q) X.xe s
noncomputable def PS3 (X:Cx) (st:Stmt) (t:TS3):Prop:=∀(pins:List (Addr×Obj)) (s:Shared) (τ:St3) (G:Gp) (H:Hp) (D:Ends3),Inv3 X pins τ G H s->t D τ G->wpAny (model X.prog X.w) X.A (exec st X.env) (SP3 X pins H D) X.xe s
noncomputable def PSs3 (X:Cx) (st:List Stmt) (t:TS3):Prop:=∀(pins:List (Addr×Obj)) (s:Shared) (τ:St3) (G:Gp) (H:Hp) (D:Ends3),Inv3 X pins τ G H s->t D τ G->wpAny (model X.prog X.w) X.A (execs st X.env) (SP3 X pins H D) X.xe s
section
variable {X:Cx} {pins:List (Addr×Obj)} {τ:St3} {G:Gp} {H H1:Hp} {s:Shared} {C:Prop}
theorem EP3.el {Q:VK3} {u:Value} (h:EP3 X pins τ H Q u s) (k:∀t G' H',Ext H H'->Inv3 X pins τ G' H' s->RU X.K H' t u->Q t G'->C):C:=let ⟨t,G',H',a,b,c,d⟩:=h;k t G' H' a b c d
theorem AP3.el {Q:List T->Gp->Prop} {u:List Value} (h:AP3 X pins τ H Q u s) (k:∀t G' H',Ext H H'->Inv3 X pins τ G' H' s->RUs X.K H' t u->Q t G'->C):C:=let ⟨t,G',H',a,b,c,d⟩:=h;k t G' H' a b c d
theorem TP3.el {Q:Bool->Gp->Prop} {u:Bool} (h:TP3 X pins τ H Q u s) (k:∀G' H',Ext H H'->Inv3 X pins τ G' H' s->Q u G'->C):C:=let ⟨G',H',a,b,c⟩:=h;k G' H' a b c
theorem Inv3.el (h:Inv3 X pins τ G H s) (k:∀ σ,Inv X pins σ H s->SRel X.K H σ τ->GRel X.K H G->C):C:=let ⟨σ,a,b,c⟩:=h;k σ a b c
theorem RU.el {K:PySem.W.Frag} {t:T} {u:Value} (h:RU K H t u) (k:∀v,Rep K H t v->RelV v u->C):C:=let ⟨v,a,b⟩:=h;k v a b
theorem RUs.el {K:PySem.W.Frag} {t:List T} {u:List Value} (h:RUs K H t u) (k:∀v,Reps K H t v->Vals v u->C):C:=let ⟨v,a,b⟩:=h;k v a b
end
section
variable {X:Cx} {pins:List (Addr×Obj)} {τ:St3} {G:Gp} {H H1:Hp} {s:Shared}
theorem EP3.ext {Q:VK3} {u:Value} (e:Ext H H1) (h:EP3 X pins τ H1 Q u s):EP3 X pins τ H Q u s:=let ⟨t,G',H',a,b⟩:=h;⟨t,G',H',e.trans a,b⟩
theorem TP3.ext {Q:Bool->Gp->Prop} {u:Bool} (e:Ext H H1) (h:TP3 X pins τ H1 Q u s):TP3 X pins τ H Q u s:=let ⟨G',H',a,b⟩:=h;⟨G',H',e.trans a,b⟩
theorem SP3.ext {D:Ends3} {f:Flow} (e:Ext H H1) (h:SP3 X pins H1 D f s):SP3 X pins H D f s:=by
 cases f with
 | next=>obtain⟨τ',G',H',a,b⟩:=h;exact⟨τ',G',H',e.trans a,b⟩
 | brk=>obtain⟨τ',G',H',a,b⟩:=h;exact⟨τ',G',H',e.trans a,b⟩
 | cont=>obtain⟨τ',G',H',a,b⟩:=h;exact⟨τ',G',H',e.trans a,b⟩
 | ret u=>obtain⟨t,τ',G',H',a,b⟩:=h;exact⟨t,τ',G',H',e.trans a,b⟩
theorem Inv3.tok (I:Inv3 X pins τ G H s) (t:Nat):Inv3 X pins τ G H {s with toks:=t}:=let ⟨σ,I,a,b⟩:=I;⟨σ,I.tok t,a,b⟩
theorem bin3 {a b:Expr} {ta tb:TE3} (ha:PE3 X a ta) (hb:PE3 X b tb) {R:T->T->Gp->Prop} (I:Inv3 X pins τ G H s) (h:ta τ G fun x G1=>tb τ G1 fun y G2=>R x y G2)
  {α:Type} {Q:α->Shared->Prop} {f:Value->Value->Sem α}
  (hf:∀v u s2 x y G2 H2,Ext H H2->Inv3 X pins τ G2 H2 s2->RU X.K H2 x v->RU X.K H2 y u->R x y G2->wpAny (model X.prog X.w) X.A (f v u) Q X.xe s2):
  wpAny (model X.prog X.w) X.A (eval a X.env) (fun v s₁=>wpAny (model X.prog X.w) X.A (eval b X.env) (fun u s₂=>wpAny (model X.prog X.w) X.A (f v u) Q X.xe s₂) X.xe s₁) X.xe s:=by
 refine thn (ha pins s τ G H _ I h) fun v s1 w_=>w_.el fun x G1 H1 e1 I1 r1 q1=> ?_
 refine thn (hb pins s1 τ G1 H1 _ I1 q1) fun u s2 w_=>w_.el fun y G2 H2 e2 I2 r2 q2=> ?_
 exact hf v u s2 x y G2 H2 (e1.trans e2) I2 (r1.mono e2) r2 q2
def up (K:PySem.W.Frag) (H:Hp) (Q:VK3):VK:=fun v H'=>∃t G',Ext H H'/\GRel K H' G'/\Rep K H' t v/\Q t G'
theorem jUb {σ:L2.St} {Q:VK3} {u:Value} (hs:SRel X.K H σ τ) (h:EP X pins σ (up X.K H Q) u s):EP3 X pins τ H Q u s:=
 let ⟨v,H',I',r',t,G',e,g',rt,q⟩:=h
 ⟨t,G',H',e,⟨σ,I',hs.mono e,g'⟩,⟨v,rt,r'⟩,q⟩
end
section
variable {X:Cx} {pos:Pos}
def tVar (i:Nat):TE3:=fun τ G Q=>∃t,τ[i]? =some (some t)/\Q t G
def tC (t:T):TE3:=fun _ G Q=>Q t G
theorem jJb (i:Nat) {x:Str} (hN:X.N[i]? =some x:=by rfl) (hv:Vis X.env.scope x:=by first | exact Or.inl rfl | exact Or.inr (Or.inl rfl) | exact Or.inr (Or.inr rfl))
  (hd:(x == ("__debug__":Str))=false:=by decide) (hcd:(x == ("__classdict__":Str))=false:=by decide):PE3 X (.Name x pos) (tVar i):=by
 rintro pins s τ G H Q ⟨σ,I,hs,hg⟩ ⟨t,e,q⟩
 obtain⟨v,ev,rv⟩:=hs.2 i t e
 exact thn (pe_var hN hv hd hcd pins s σ H (up X.K H Q) I ⟨v,ev,t,G,.refl H,hg,rv,q⟩) fun u s' h=>jUb hs h
theorem jJj {i j}:PE3 X (.Constant (.int i) j pos) (tC (.int i)):=fun pins s τ G H Q ⟨σ,I,hs,hg⟩ q=>
 thn (pe_int pins s σ H (up X.K H Q) I ⟨.int i,G,.refl H,hg,rfl,q⟩) fun u s' h=>jUb hs h
theorem e_bl {b j}:PE3 X (.Constant (.bool b) j pos) (tC (.bl b)):=fun pins s τ G H Q ⟨σ,I,hs,hg⟩ q=>
 thn (pe_bl pins s σ H (up X.K H Q) I ⟨.bl b,G,.refl H,hg,rfl,q⟩) fun u s' h=>jUb hs h
theorem kVf {j}:PE3 X (.Constant .none j pos) (tC .non):=fun pins s τ G H Q ⟨σ,I,hs,hg⟩ q=>
 thn (pe_non pins s σ H (up X.K H Q) I ⟨.non,G,.refl H,hg,rfl,q⟩) fun u s' h=>jUb hs h
theorem e_str {x j}:PE3 X (.Constant (.str x) j pos) (tC (.str x)):=fun pins s τ G H Q ⟨σ,I,hs,hg⟩ q=>
 thn (pe_str pins s σ H (up X.K H Q) I ⟨.str x,G,.refl H,hg,rfl,q⟩) fun u s' h=>jUb hs h
end
abbrev R3:=T->T->Gp->VK3->Prop
noncomputable def Op3 (X:Cx) (f:Value->Value->Sem Value) (r:R3):Prop:=
 ∀(pins:List (Addr×Obj)) (s:Shared) (τ:St3) (G:Gp) (H:Hp) (x y:T) (v u:Value) (Q:VK3),Inv3 X pins τ G H s->RU X.K H x v->RU X.K H y u->r x y G Q->wpAny (model X.prog X.w) X.A (f v u) (EP3 X pins τ H Q) X.xe s
noncomputable def Un3 (X:Cx) (f:Value->Sem Value) (r:T->Gp->VK3->Prop):Prop:=
 ∀(pins:List (Addr×Obj)) (s:Shared) (τ:St3) (G:Gp) (H:Hp) (x:T) (v:Value) (Q:VK3),Inv3 X pins τ G H s->RU X.K H x v->r x G Q->wpAny (model X.prog X.w) X.A (f v) (EP3 X pins τ H Q) X.xe s
noncomputable def Call3 (X:Cx) (f:Value) (r:List T->Gp->VK3->Prop):Prop:=
 ∀(pins:List (Addr×Obj)) (s:Shared) (τ:St3) (G:Gp) (H:Hp) (xs:List T) (us:List Value) (Q:VK3),Inv3 X pins τ G H s->RUs X.K H xs us->r xs G Q->wpAny (model X.prog X.w) X.A (call f us) (EP3 X pins τ H Q) X.xe s
noncomputable def Mt3 (X:Cx) (id:String) (r:T->List T->Gp->VK3->Prop):Prop:=
 ∀(pins:List (Addr×Obj)) (s:Shared) (τ:St3) (G:Gp) (H:Hp) (x:T) (xs:List T) (v:Value) (us:List Value) (Q:VK3),Inv3 X pins τ G H s->RU X.K H x v->RUs X.K H xs us->r x xs G Q->
  wpAny (model X.prog X.w) X.A (call (.builtin id) (v::us)) (EP3 X pins τ H Q) X.xe s
noncomputable def Ix3 (X:Cx) (r:R3):Prop:=
 ∀(value slice:Expr) (pins:List (Addr×Obj)) (s:Shared) (τ:St3) (G:Gp) (H:Hp) (x y:T) (v u:Value) (Q:VK3),Inv3 X pins τ G H s->RU X.K H x v->RU X.K H y u->r x y G Q->
  subscripted slice false v u=operate [v,u] (getItem v u)->wpAny (model X.prog X.w) X.A (subscriptTail value slice v u) (EP3 X pins τ H Q) X.xe s
noncomputable def Set3 (X:Cx) (r:T->T->T->Gp->(Gp->Prop)->Prop):Prop:=
 ∀(pins:List (Addr×Obj)) (s:Shared) (τ:St3) (G:Gp) (H:Hp) (o i v:T) (ov iv u:Value) (Q:Gp->Prop),Inv3 X pins τ G H s->RU X.K H o ov->RU X.K H i iv->RU X.K H v u->r o i v G Q->
  wpAny (model X.prog X.w) X.A (setItem ov iv u) (fun _ s'=>∃G' H',Ext H H'/\Inv3 X pins τ G' H' s'/\Q G') X.xe s
noncomputable def Tru3 (X:Cx) (r:T->Gp->(Bool->Gp->Prop)->Prop):Prop:=
 ∀(pins:List (Addr×Obj)) (s:Shared) (τ:St3) (G:Gp) (H:Hp) (x:T) (v:Value) (Q:Bool->Gp->Prop),Inv3 X pins τ G H s->RU X.K H x v->r x G Q->wpAny (model X.prog X.w) X.A (truthy v) (TP3 X pins τ H Q) X.xe s
section
variable {X:Cx}
theorem Op3.of {f:Value->Value->Sem Value} {r:R2} {r3:R3} (h:OpR X f r)
  (hr:∀H G x y a b Q,GRel X.K H G->Rep X.K H x a->Rep X.K H y b->r3 x y G Q->r a b H (up X.K H Q)):Op3 X f r3:=by
 rintro pins s τ G H x y v u Q ⟨σ,I,hs,hg⟩ ⟨a,ra,rv⟩ ⟨b,rb,ru⟩ q
 exact thn (h pins s σ H a b v u _ I rv ru (hr H G x y a b Q hg ra rb q)) fun u s' h=>jUb hs h
theorem Un3.of {f:Value->Sem Value} {r:V->Hp->VK->Prop} {r3:T->Gp->VK3->Prop} (h:UnR X f r)
  (hr:∀H G x a Q,GRel X.K H G->Rep X.K H x a->r3 x G Q->r a H (up X.K H Q)):Un3 X f r3:=by
 rintro pins s τ G H x v Q ⟨σ,I,hs,hg⟩ ⟨a,ra,rv⟩ q
 exact thn (h pins s σ H a v _ I rv (hr H G x a Q hg ra q)) fun u s' h=>jUb hs h
theorem Call3.of {f:Value} {r:List V->Hp->VK->Prop} {r3:List T->Gp->VK3->Prop} (h:jZw X f r)
  (hr:∀H G xs as Q,GRel X.K H G->Reps X.K H xs as->r3 xs G Q->r as H (up X.K H Q)):Call3 X f r3:=by
 rintro pins s τ G H xs us Q ⟨σ,I,hs,hg⟩ ⟨as,ra,rv⟩ q
 exact thn (h pins s σ H as us _ I rv (hr H G xs as Q hg ra q)) fun u s' h=>jUb hs h
theorem Mt3.of {id:String} {r:V->List V->Hp->VK->Prop} {r3:T->List T->Gp->VK3->Prop} (h:MtR X id r)
  (hr:∀H G x xs a as Q,GRel X.K H G->Rep X.K H x a->Reps X.K H xs as->r3 x xs G Q->r a as H (up X.K H Q)):Mt3 X id r3:=by
 rintro pins s τ G H x xs v us Q ⟨σ,I,hs,hg⟩ ⟨a,ra,rv⟩ ⟨as,ras,rvs⟩ q
 exact thn (h pins s σ H a as v us _ I rv rvs (hr H G x xs a as Q hg ra ras q)) fun u s' h=>jUb hs h
theorem Ix3.of {r:R2} {r3:R3} (h:IxR X r)
  (hr:∀H G x y a b Q,GRel X.K H G->Rep X.K H x a->Rep X.K H y b->r3 x y G Q->r a b H (up X.K H Q)):Ix3 X r3:=by
 rintro value slice pins s τ G H x y v u Q ⟨σ,I,hs,hg⟩ ⟨a,ra,rv⟩ ⟨b,rb,ru⟩ q hh
 exact thn (h value slice pins s σ H a b v u _ I rv ru (hr H G x y a b Q hg ra rb q) hh) fun u s' h=>jUb hs h
theorem Set3.of {t:TSet} {r3:T->T->T->Gp->(Gp->Prop)->Prop} (h:PSet X t)
  (hr:∀H G o i v a b c Q,GRel X.K H G->Rep X.K H o a->Rep X.K H i b->Rep X.K H v c->r3 o i v G Q->t a b c H (fun H'=>∃G',Ext H H'/\GRel X.K H' G'/\Q G')):Set3 X r3:=by
 rintro pins s τ G H o i v ov iv u Q ⟨σ,I,hs,hg⟩ ⟨a,ra,rv⟩ ⟨b,rb,ru⟩ ⟨c,rc,rw'⟩ q
 exact thn (h pins s σ H a b c ov iv u _ I rv ru rw' (hr H G o i v a b c Q hg ra rb rc q)) fun _ s' ⟨H',I',G',e,g',q'⟩=>⟨G',H',e,⟨σ,I',hs.mono e,g'⟩,q'⟩
theorem Tru3.of {r:V->Hp->(Bool->Hp->Prop)->Prop} {r3:T->Gp->(Bool->Gp->Prop)->Prop} (h:TruR X r)
  (hr:∀H G x a Q,GRel X.K H G->Rep X.K H x a->r3 x G Q->r a H (fun b H'=>H'=H/\Q b G)):Tru3 X r3:=by
 rintro pins s τ G H x v Q ⟨σ,I,hs,hg⟩ ⟨a,ra,rv⟩ q
 exact thn (h pins s σ H a v _ I rv (hr H G x a Q hg ra q)) fun b s' ⟨H',I',e,q'⟩=>by
  subst e;exact⟨G,H',.refl _,⟨σ,I',hs,hg⟩,q'⟩
theorem Op3.or {f:Value->Value->Sem Value} {r r':R3} (h:Op3 X f r) (h':Op3 X f r'):Op3 X f (fun x y G Q=>r x y G Q\/r' x y G Q):=by
 intro pins s τ G H x y v u Q I rx ry q
 rcases q with q | q
 ·exact h pins s τ G H x y v u Q I rx ry q
 ·exact h' pins s τ G H x y v u Q I rx ry q
def rI (C:Int->Int->Prop) (g:Int->Int->T):R3:=fun x y G Q=>∃i j,x= .int i/\y= .int j/\C i j/\Q (g i j) G
def rI0 (g:Int->Int->T):R3:=fun x y G Q=>∃i j,x= .int i/\y= .int j/\Q (g i j) G
theorem o_I {f:Value->Value->Sem Value} {C:Int->Int->Prop} {g:Int->Int->V} {g':Int->Int->T} (h:OpR X f (L2.rI C g)) (hg':∀K H i j,Rep K H (g' i j) (g i j)):Op3 X f (rI C g'):=
 Op3.of h fun H G x y a b Q hg ra rb ⟨i,j,ex,ey,c,q⟩=>by
  subst ex;subst ey
  cases (show a= .int i from ra);cases (show b= .int j from rb)
  exact⟨i,j,rfl,rfl,c,g' i j,G,.refl H,hg,hg' _ _ i j,q⟩
theorem o_I0 {f:Value->Value->Sem Value} {g:Int->Int->V} {g':Int->Int->T} (h:OpR X f (L2.rI0 g)) (hg':∀K H i j,Rep K H (g' i j) (g i j)):Op3 X f (rI0 g'):=
 Op3.of h fun H G x y a b Q hg ra rb ⟨i,j,ex,ey,q⟩=>by
  subst ex;subst ey
  cases (show a= .int i from ra);cases (show b= .int j from rb)
  exact⟨i,j,rfl,rfl,g' i j,G,.refl H,hg,hg' _ _ i j,q⟩
theorem o_add:Op3 X (binaryOp .Add) (rI0 fun i j=> .int (i+j)):=o_I0 op_add fun _ _ _ _=>rfl
theorem o_sub:Op3 X (binaryOp .Sub) (rI0 fun i j=> .int (i-j)):=o_I0 op_sub fun _ _ _ _=>rfl
theorem o_mul:Op3 X (binaryOp .Mult) (rI CMul fun i j=> .int (i*j)):=o_I op_mul fun _ _ _ _=>rfl
theorem kY6:Op3 X (binaryOp .FloorDiv) (rI CDiv fun i j=> .int (i / j)):=o_I kZ0 fun _ _ _ _=>rfl
theorem jV5:Op3 X (binaryOp .Mod) (rI (fun _ j=>0<j) fun i j=> .int (i%j)):=o_I op_mod fun _ _ _ _=>rfl
theorem o_pow:Op3 X (binaryOp .Pow) (rI CPow fun i j=> .int (i^j.toNat)):=o_I op_pow fun _ _ _ _=>rfl
theorem o_lt:Op3 X (compareOp .Lt) (rI0 fun i j=> .bl (decide (i<j))):=o_I0 op_lt fun _ _ _ _=>rfl
theorem o_le:Op3 X (compareOp .LtE) (rI0 fun i j=> .bl (decide (i<=j))):=o_I0 op_le fun _ _ _ _=>rfl
theorem o_gt:Op3 X (compareOp .Gt) (rI0 fun i j=> .bl (decide (j<i))):=o_I0 op_gt fun _ _ _ _=>rfl
theorem o_ge:Op3 X (compareOp .GtE) (rI0 fun i j=> .bl (decide (j<=i))):=o_I0 op_ge fun _ _ _ _=>rfl
def qJj:T->Bool
 | .non=>true
 | _=>false
end
def tOp (r:R3) (ta tb:TE3):TE3:=fun τ G Q=>ta τ G fun x G1=>tb τ G1 fun y G2=>r x y G2 Q
def tUn (r:T->Gp->VK3->Prop) (ta:TE3):TE3:=fun τ G Q=>ta τ G fun x G1=>r x G1 Q
def jKa (t:TE3):TT3:=fun τ G Q=>t τ G fun x G1=>∃c,x= .bl c/\Q c G1
def tAnd (t u:TT3):TT3:=fun τ G Q=>t τ G fun c G1=>if c=true then u τ G1 Q else Q false G1
def tOr (t u:TT3):TT3:=fun τ G Q=>t τ G fun c G1=>if c=true then Q true G1 else u τ G1 Q
def tNot (t:TT3):TT3:=fun τ G Q=>t τ G fun c G1=>Q (!c) G1
def kQz (ta tb:TE3):TE3:=fun τ G Q=>ta τ G fun x G1=>∃c,x= .bl c/\if c=true then tb τ G1 Q else Q (.bl false) G1
def tOrV (ta tb:TE3):TE3:=fun τ G Q=>ta τ G fun x G1=>∃c,x= .bl c/\if c=true then Q (.bl true) G1 else tb τ G1 Q
def tNotV (ta:TE3):TE3:=fun τ G Q=>ta τ G fun x G1=>∃c,x= .bl c/\Q (.bl (!c)) G1
def tIf (t:TT3) (ta tb:TE3):TE3:=fun τ G Q=>t τ G fun c G1=>if c=true then ta τ G1 Q else tb τ G1 Q
def tNil:TA3:=fun _ G Q=>Q [] G
def jJc (ta:TE3) (tr:TA3):TA3:=fun τ G Q=>ta τ G fun x G1=>tr τ G1 fun xs G2=>Q (x::xs) G2
def tTup (t:TA3):TE3:=fun τ G Q=>t τ G fun xs G1=>xs.length<=sizeLine/\Q (.tup xs) G1
def tLst (t:TA3):TE3:=fun τ G Q=>t τ G fun xs G1=>xs.length<=sizeLine/\∀p,G1 p=none->Q (.ref p) (gup G1 p (.lst xs))
def tCB (r:List T->Gp->VK3->Prop) (t:TA3):TE3:=fun τ G Q=>t τ G fun xs G1=>r xs G1 Q
section
variable {X:Cx} {a b c:Expr} {ta tb tc:TE3} {tA tB:TT3} {pos:Pos} {rest es:List Expr} {t:TA3}
theorem e_op {op:Operator} {r:R3} (ho:Op3 X (binaryOp op) r) (ha:PE3 X a ta) (hb:PE3 X b tb):PE3 X (.BinOp a op b pos) (tOp r ta tb):=by
 intro pins s τ G H Q I h
 exact wpAny_BinOp (bin3 ha hb I h fun v u s2 x y G2 H2 e I2 rx ry q=>thn (ho pins s2 τ G2 H2 x y v u Q I2 rx ry q) fun _ _ z=>z.ext e)
theorem e_un {op:UnaryOp} {r:T->Gp->VK3->Prop} (ho:Un3 X (unaryOp op) r) (ha:PE3 X a ta):PE3 X (.UnaryOp op a pos) (tUn r ta):=by
 intro pins s τ G H Q I h
 exact UnaryOp_ (thn (ha pins s τ G H _ I h) fun v s1 w_=>w_.el fun x G1 H1 e I1 r1 q1=>thn (ho pins s1 τ G1 H1 x v Q I1 r1 q1) fun _ _ z=>z.ext e)
theorem kVh {op:CmpOp} {r:R3} (ho:Op3 X (compareOp op) r) (ha:PE3 X a ta) (hb:PE3 X b tb) (hm:behindInMarks op b=false):PE3 X (.Compare a [op] [b] pos) (tOp r ta tb):=by
 intro pins s τ G H Q I h
 exact wpAny_Compare1 (bin3 ha hb I h fun v u s2 x y G2 H2 e I2 rx ry q=>thn (ho pins s2 τ G2 H2 x y v u Q I2 rx ry q) fun _ _ z=>z.ext e) hm
theorem jQs {op:CmpOp} {r:R3} (ho:Op3 X (compareOp op) r) (ha:PE3 X a ta) (hb:PE3 X b tb) (hm:behindInMarks op b=false):PT3 X (.Compare a [op] [b] pos) (jKa (tOp r ta tb)):=by
 intro pins s τ G H Q I h
 refine wpAny_isTrue_Compare1 (bin3 ha hb I h fun v u s2 x y G2 H2 e I2 rx ry q=>thn (ho pins s2 τ G2 H2 x y v u _ I2 rx ry q) fun w' s3 w_=>w_.el fun z G3 H3 e3 I3 r3 ⟨k,ez,q3⟩=> ?_) hm
 subst ez
 obtain⟨v',rv',ru'⟩:=r3
 cases (show v'= .bl k from rv');cases ru'
 exact wpAny_truthy_bool ⟨G3,H3,e.trans e3,I3,q3⟩
theorem kV0 {e:Expr} {t:TE3} (h:PE3 X e t) (he:∀whole,isTrue e X.env whole=(do let v <-whole;standAt e.pos;holding [v] (truthy v)):=by intro _;rfl):PT3 X e (jKa t):=by
 intro pins s τ G H Q I hw
 refine isTrue_plain (thn (h pins s τ G H _ I hw) fun v s1 w_=>w_.el fun x G1 H1 e1 I1 r1 ⟨k,ez,q1⟩=> ?_) (he _)
 subst ez
 obtain⟨v',rv',ru'⟩:=r1
 cases (show v'= .bl k from rv');cases ru'
 exact wpAny_truthy_bool ⟨G1,H1,e1,I1,q1⟩
def tTru (r:T->Gp->(Bool->Gp->Prop)->Prop) (t:TE3):TT3:=fun τ G Q=>t τ G fun x G1=>r x G1 Q
theorem kZo {e:Expr} {t:TE3} {r:T->Gp->(Bool->Gp->Prop)->Prop} (hr:Tru3 X r) (h:PE3 X e t) (he:∀whole,isTrue e X.env whole=(do let v <-whole;standAt e.pos;holding [v] (truthy v)):=by intro _;rfl):PT3 X e (tTru r t):=by
 intro pins s τ G H Q I hw
 exact isTrue_plain (thn (h pins s τ G H _ I hw) fun v s1 w_=>w_.el fun x G1 H1 e1 I1 r1 q1=>thn (hr pins s1 τ G1 H1 x v Q I1 r1 q1) fun _ _ z=>z.ext e1) (he _)
theorem kQn (ha:PT3 X a tA):PW3 X (.BoolOp .And [a] pos) tA:=by
 intro wh pins s τ G H Q I h
 refine isTrue_and (thn (ha pins s τ G H Q I h) fun c s1 e=> ?_)
 cases c with
 | true=>exact isTrue_and_nil e
 | false=>exact e
theorem w_or1 (ha:PT3 X a tA):PW3 X (.BoolOp .Or [a] pos) tA:=by
 intro wh pins s τ G H Q I h
 refine isTrue_or (thn (ha pins s τ G H Q I h) fun c s1 e=> ?_)
 cases c with
 | false=>exact isTrue_or_nil e
 | true=>exact e
theorem kVx (ha:PT3 X a tA) (hb:PW3 X (.BoolOp .And (b::rest) pos) tB):PW3 X (.BoolOp .And (a::b::rest) pos) (tAnd tA tB):=by
 intro wh pins s τ G H Q I h
 refine isTrue_and (thn (ha pins s τ G H _ I h) fun c s1 w_=>w_.el fun G1 H1 e1 I1 q1=> ?_)
 cases c with
 | true=>exact thn (hb wh pins s1 τ G1 H1 Q I1 q1) fun _ _ z=>z.ext e1
 | false=>exact⟨G1,H1,e1,I1,q1⟩
theorem w_or (ha:PT3 X a tA) (hb:PW3 X (.BoolOp .Or (b::rest) pos) tB):PW3 X (.BoolOp .Or (a::b::rest) pos) (tOr tA tB):=by
 intro wh pins s τ G H Q I h
 refine isTrue_or (thn (ha pins s τ G H _ I h) fun c s1 w_=>w_.el fun G1 H1 e1 I1 q1=> ?_)
 cases c with
 | true=>exact⟨G1,H1,e1,I1,q1⟩
 | false=>exact thn (hb wh pins s1 τ G1 H1 Q I1 q1) fun _ _ z=>z.ext e1
theorem kZp (ha:PT3 X a tA):PT3 X (.UnaryOp .Not a pos) (tNot tA):=by
 intro pins s τ G H Q I h
 exact isTrue_not (thn (ha pins s τ G H (fun c G1=>Q (!c) G1) I h) fun c s1 w_=>w_.el fun G1 H1 e1 I1 q1=>⟨G1,H1,e1,I1,q1⟩)
theorem e_one {op} {t:TE3} (h:PE3 X a t):PE3 X (.BoolOp op [a] pos) t:=fun pins s τ G H Q I hw=>BoolOp_one (h pins s τ G H Q I hw)
theorem e_and (ha:PE3 X a ta) (hb:PE3 X (.BoolOp .And (b::rest) pos) tb):PE3 X (.BoolOp .And (a::b::rest) pos) (kQz ta tb):=by
 intro pins s τ G H Q I h
 refine BoolOp_and (thn (ha pins s τ G H _ I h) fun v s1 w_=>w_.el fun x G1 H1 e1 I1 r1 ⟨k,ez,q1⟩=> ?_)
 subst ez
 obtain⟨v',rv',ru'⟩:=r1
 cases (show v'= .bl k from rv');cases ru'
 refine wpAny_truthy_bool ?_
 cases k with
 | true=>exact thn (hb pins s1 τ G1 H1 Q I1 q1) fun _ _ z=>z.ext e1
 | false=>exact⟨.bl false,G1,H1,e1,I1,⟨.bl false,rfl,rfl⟩,q1⟩
theorem kVg (hc:PT3 X c tA) (ha:PE3 X a ta) (hb:PE3 X b tb):PE3 X (.IfExp c a b pos) (tIf tA ta tb):=by
 intro pins s τ G H Q I h
 refine IfExp_ (thn (hc pins s τ G H _ I h) fun k s1 w_=>w_.el fun G1 H1 e1 I1 q1=> ?_)
 cases k with
 | true=>exact thn (ha pins s1 τ G1 H1 Q I1 q1) fun _ _ z=>z.ext e1
 | false=>exact thn (hb pins s1 τ G1 H1 Q I1 q1) fun _ _ z=>z.ext e1
theorem jJd:PA3 X [] tNil:=fun _ _ _ _ G H Q I h=>Calls.spliced_nil ⟨[],G,H,.refl H,I,⟨[],rfl,.nil⟩,h⟩
theorem jJa {e:Expr} {te:TE3} (ha:PE3 X e te) (hr:PA3 X es t) (hs:starEach (e::es) X.env=(false,eval e X.env)::starEach es X.env:=by rfl):PA3 X (e::es) (jJc te t):=by
 intro pos pins s τ G H Q I h
 rw[hs]
 show wpAny _ _ (spliced ((false,eval e X.env)::backTo pos (starEach es X.env))) _ _ s
 refine Calls.spliced_cons (thn (ha pins s τ G H _ I h) fun u s1 w_=>w_.el fun x G1 H1 e1 I1 r1 q1=> ?_)
 refine thn (hr pos pins s1 τ G1 H1 _ I1 q1) fun us s2 w_=>w_.el fun xs G2 H2 e2 I2 r_ q2=>r_.el fun vs rs rv=> ?_
 obtain⟨v,rr,rvv⟩:=r1.mono e2
 exact⟨x::xs,G2,H2,e1.trans e2,I2,⟨v::vs,⟨v,vs,rfl,rr,rs⟩,.cons rvv rv⟩,q2⟩
theorem jKu {x1} (h:PA3 X es t):PE3 X (.Tuple es x1 pos) (tTup t):=by
 intro pins s τ G H Q I hq
 refine wpAny_Tuple_spliced (thn (h pos pins s τ G H _ I hq) fun us s1 w_=>w_.el fun xs G1 H1 e1 i_ r_ ⟨z,q⟩=>i_.el fun σ I1 hs1 hg1=>r_.el fun vs rs rv=>⟨by rw[<-rv.length,<-rs.length];exact z,?_⟩)
 have hf:H1 s1.heap.objs.size=none:=I1.hok.fresh (Nat.le_refl _)
 have e2:Ext H1 (upd H1 s1.heap.objs.size (.tup vs)):= .upd (.none hf)
 refine⟨.tup xs,G1,upd H1 s1.heap.objs.size (.tup vs),e1.trans e2,⟨σ,I1.laid (t':=s1.toks) (fun b u e=>Heap.get?_push_of_some _ e) (Nat.le_refl _) ?_,hs1.mono e2,hg1.tupNew hf⟩,⟨.ref s1.heap.objs.size,Rep.tupNew rs hf,rfl⟩,q⟩
 exact⟨by rw[<-rs.length];exact z,us,rv,⟨_,Heap.get?_push_size _ rfl,rfl,_,rfl,rfl⟩⟩
theorem jQ2 (h:PA3 X es t):PE3 X (.List es pos) (tLst t):=by
 intro pins s τ G H Q I hq
 refine wpAny_List_spliced (thn (h pos pins s τ G H _ I hq) fun us s1 w_=>w_.el fun xs G1 H1 e1 i_ r_ ⟨z,q⟩=>i_.el fun σ I1 hs1 hg1=>r_.el fun vs rs rv=>⟨by rw[<-rv.length,<-rs.length];exact z,?_⟩)
 have hf:H1 s1.heap.objs.size=none:=I1.hok.fresh (Nat.le_refl _)
 have e2:Ext H1 (upd H1 s1.heap.objs.size (.lst vs)):= .upd (.none hf)
 refine⟨.ref s1.heap.objs.size,gup G1 s1.heap.objs.size (.lst xs),upd H1 s1.heap.objs.size (.lst vs),e1.trans e2,⟨σ,I1.laid (t':=s1.toks) (fun b u e=>Heap.get?_push_of_some _ e) (Nat.le_refl _) ?_,hs1.mono e2,hg1.lstNew rs (.none hf)⟩,⟨.ref s1.heap.objs.size,rfl,rfl⟩,q _ (hg1.fresh hf)⟩
 exact⟨by rw[<-rs.length];exact z,us,0,rv,Heap.get?_push_size _ rfl⟩
theorem e_ix {r:R3} (hr:Ix3 X r) (ha:PE3 X a ta) (hb:PE3 X b tb) (hs:qJ3 b):PE3 X (.Subscript a b pos) (tOp r ta tb):=by
 intro pins s τ G H Q I h
 exact Subscript_ (bin3 ha hb I h fun v u s2 x y G2 H2 e I2 rx ry q=>thn (hr a b pins s2 τ G2 H2 x y v u Q I2 rx ry q (hs _ _)) fun _ _ z=>z.ext e)
def rIx:R3:=fun x y G Q=>∃xs i t,seqT G x=some xs/\y= .int i/\atI xs i=some t/\Q t G
theorem jUv {o:Option GO} {xs:List T} (h:asL o=some xs):o=some (.lst xs):=by
 cases o with
 | none=>cases h
 | some g=>cases g with
  | lst ys=>cases h;rfl
  | dct _=>cases h
  | dck _=>cases h
  | fdc _=>cases h
  | ins _ _=>cases h
  | exc _=>cases h
theorem jQe {K:PySem.W.Frag} {H:Hp} {G:Gp} {x:T} {a:V} {xs:List T} (hg:GRel K H G) (r:Rep K H x a) (h:seqT G x=some xs):
  ∃p vs,a= .ref p/\(SqL K H p vs\/SqT K H p vs)/\Reps K H xs vs:=by
 cases x with
 | tup ys=>cases h;obtain⟨p,vs,e,h1,h2⟩:=(show ∃p vs,a= .ref p/\H p=some (.tup vs)/\Reps K H xs vs from r);exact⟨p,vs,e,.inr (.of h1),h2⟩
 | scr ys=>cases h;obtain⟨p,vs,e,h1,h2⟩:=(show ∃p vs,a= .ref p/\FrL K H p vs/\Reps K H xs vs from r);exact⟨p,vs,e,.inl h1.sq,h2⟩
 | ref p=>
  obtain⟨vs,h1,h2⟩:=hg.lst (jUv h)
  exact⟨p,vs,r,.inl (.of h1),h2⟩
 | non=>cases h
 | bl _=>cases h
 | int _=>cases h
 | str _=>cases h
 | ty _=>cases h
theorem ix_any:Ix3 X rIx:=
 Ix3.of (ix_list.or ix_tup) fun H G x y a b Q hg ra rb ⟨xs,i,t,hx,ey,ht,q⟩=>by
  subst ey;cases (show b= .int i from rb)
  obtain⟨p,vs,e,hq,r⟩:=jQe hg ra hx
  subst e
  obtain⟨v,hv,rv⟩:=r.atI ht
  rcases hq with hq | hq
  ·exact .inl ⟨p,vs,i,v,rfl,rfl,hq,hv,t,G,.refl H,hg,rv,q⟩
  ·exact .inr ⟨p,vs,i,v,rfl,rfl,hq,hv,t,G,.refl H,hg,rv,q⟩
theorem jJr {id:String} {r:List T->Gp->VK3->Prop} {x:Str} {p:Pos} {e:Expr} (hc:Call3 X (.builtin id) r) (hg:Gl X x) (hm:X.mg x=none) (hv:bootBuiltins x=some (.builtin id)) (ha:PA3 X (e::es) t) (hn:x≠"__name__":=by decide) (hdb:(x == ("__debug__":Str))=false:=by decide)
  (he:starEach (e::es) X.env=(false,eval e X.env)::starEach es X.env:=by rfl) (hpl:(backTo pos (starEach es X.env)).any (·.1)=false:=by rfl):PE3 X (.Call (.Name x p) (e::es) [] pos) (tCB r t):=by
 intro pins s τ G H Q I h
 obtain⟨σ,I0,hs0,hg0⟩:=_root_.id I
 refine wpAny_Call_Name_kw (jK1 I0 hg hm hv ?_ hn hdb)
 exact PyProof.Rows.callWith_builtin1 (thn (ha pos pins s τ G H _ I h) fun us s1 w_=>w_.el fun xs G1 H1 e1 I1 r1 q1=>thn (hc pins s1 τ G1 H1 xs us Q I1 r1 q1) fun _ _ z=>z.ext e1) he hpl
theorem jKc {T0:String} {r:List T->Gp->VK3->Prop} {x:Str} {p:Pos} {e:Expr} (hc:Call3 X (.type T0) r) (hg:Gl X x) (hm:X.mg x=none) (hv:bootBuiltins x=some (.type T0)) (ha:PA3 X (e::es) t) (hn:x≠"__name__":=by decide) (hdb:(x == ("__debug__":Str))=false:=by decide)
  (he:starEach (e::es) X.env=(false,eval e X.env)::starEach es X.env:=by rfl) (hpl:(backTo pos (starEach es X.env)).any (·.1)=false:=by rfl):PE3 X (.Call (.Name x p) (e::es) [] pos) (tCB r t):=by
 intro pins s τ G H Q I h
 obtain⟨σ,I0,hs0,hg0⟩:=_root_.id I
 refine wpAny_Call_Name_kw (jK1 I0 hg hm hv ?_ hn hdb)
 exact PyProof.Rows.callWith_type1 (thn (ha pos pins s τ G H _ I h) fun us s1 w_=>w_.el fun xs G1 H1 e1 I1 r1 q1=>thn (hc pins s1 τ G1 H1 xs us Q I1 r1 q1) fun _ _ z=>z.ext e1) he hpl
theorem jUq {K:PySem.W.Frag} {H:Hp} {x:T} {vs:List V} (h:Reps K H [x] vs):∃v,vs=[v]/\Rep K H x v:=by
 obtain⟨v,ws,rfl,r,e⟩:=h;cases e;exact⟨v,rfl,r⟩
theorem jZ4 {K:PySem.W.Frag} {H:Hp} {x y:T} {vs:List V} (h:Reps K H [x,y] vs):∃v w,vs=[v,w]/\Rep K H x v/\Rep K H y w:=by
 obtain⟨v,ws,rfl,r,w,ws2,rfl,r2,e⟩:=h;cases e;exact⟨v,w,rfl,r,r2⟩
def rLen:List T->Gp->VK3->Prop:=fun xs G Q=>∃x ys,xs=[x]/\seqT G x=some ys/\Q (.int ys.length) G
theorem jQo:Call3 X (.builtin "len") rLen:=
 Call3.of jZo fun H G xs as Q hg ra ⟨x,ys,e,hx,q⟩=>by
  subst e
  obtain⟨v,rfl,rv⟩:=jUq ra
  obtain⟨p,vs,rfl,hq,r⟩:=jQe hg rv hx
  exact⟨p,vs,rfl,hq,.int ys.length,G,.refl H,hg,by rw[r.length];rfl,q⟩
def rAbs:List T->Gp->VK3->Prop:=fun xs G Q=>∃i,xs=[.int i]/\Q (.int (if i<0 then -i else i)) G
theorem c_abs:Call3 X (.builtin "abs") rAbs:=
 Call3.of kYo fun H G xs as Q hg ra ⟨i,e,q⟩=>by
  subst e
  obtain⟨v,rfl,rv⟩:=jUq ra
  cases (show v= .int i from rv)
  exact⟨i,rfl,.int _,G,.refl H,hg,rfl,q⟩
def rMax:List T->Gp->VK3->Prop:=fun xs G Q=>∃i j,xs=[.int i,.int j]/\Q (.int (if j>i then j else i)) G
def kUd:List T->Gp->VK3->Prop:=fun xs G Q=>∃k,xs=[.bl k]/\Q (.int (if k then 1 else 0)) G
theorem c_int:Call3 X (.type "int") kUd:=
 Call3.of kVq fun H G xs as Q hg ra ⟨k,e,q⟩=>by
  subst e
  obtain⟨v,rfl,rv⟩:=jUq ra
  cases (show v= .bl k from rv)
  exact .inr ⟨k,rfl,.int _,G,.refl H,hg,rfl,q⟩
def kJg:List T->Gp->VK3->Prop:=fun xs G Q=>∃i j,xs=[.int i,.int j]/\CDiv i j/\Q (.tup [.int (i / j),.int (i%j)]) G
theorem kYp:Call3 X (.builtin "divmod") kJg:=
 Call3.of kJy fun H G xs as Q hg ra ⟨i,j,e,c,q⟩=>by
  subst e
  obtain⟨v,w,rfl,rv,rw'⟩:=jZ4 ra
  cases (show v= .int i from rv);cases (show w= .int j from rw')
  exact⟨i,j,rfl,c,fun p hp=>⟨.tup [.int (i / j),.int (i%j)],G,.upd (.none hp),hg.tupNew hp,Rep.tupNew ⟨_,_,rfl,rfl,_,_,rfl,rfl,rfl⟩ hp,q⟩⟩
def jYk:List T->Gp->VK3->Prop:=fun xs G Q=>∃x ys,xs=[x]/\seqT G x=some ys/\∀p,G p=none->Q (.ref p) (gup G p (.lst ys))
theorem c_list:Call3 X (.type "list") jYk:=
 Call3.of jZn fun H G xs as Q hg ra ⟨x,ys,e,hx,q⟩=>by
  subst e
  obtain⟨v,rfl,rv⟩:=jUq ra
  obtain⟨p,vs,rfl,hq,r⟩:=jQe hg rv hx
  exact⟨p,vs,rfl,hq,fun l hl=>⟨.ref l,_,.upd (.none hl),hg.lstNew r (.none hl),rfl,q l (hg.fresh hl)⟩⟩
def jJ8:List T->Gp->VK3->Prop:=fun xs G Q=>∃x ys,xs=[x]/\seqT G x=some ys/\Q (.tup ys) G
theorem jQn:Call3 X (.type "tuple") jJ8:=
 Call3.of jYx fun H G xs as Q hg ra ⟨x,ys,e,hx,q⟩=>by
  subst e
  obtain⟨v,rfl,rv⟩:=jUq ra
  obtain⟨p,vs,rfl,hq,r⟩:=jQe hg rv hx
  cases x with
  | tup zs=>
   cases hx
   obtain⟨p',vs',e',h1,h2⟩:=(show ∃p' vs',V.ref p= .ref p'/\H p'=some (.tup vs')/\Reps X.K H ys vs' from rv)
   cases e'
   exact⟨p,vs',rfl,.inr ⟨.of h1,.tup ys,G,.refl H,hg,⟨p,vs',rfl,h1,h2⟩,q⟩⟩
  | scr zs=>
   cases hx
   obtain⟨p',vs',e',h1,h2⟩:=(show ∃p' vs',V.ref p= .ref p'/\FrL X.K H p' vs'/\Reps X.K H ys vs' from rv)
   cases e'
   exact⟨p,vs',rfl,.inl ⟨h1.sq,fun l hl=>⟨.tup ys,G,.upd (.none hl),hg.tupNew hl,Rep.tupNew h2 hl,q⟩⟩⟩
  | ref p'=>
   cases (show V.ref p= .ref p' from rv)
   obtain⟨vs',h1,h2⟩:=hg.lst (jUv hx)
   exact⟨p,vs',rfl,.inl ⟨.of h1,fun l hl=>⟨.tup ys,G,.upd (.none hl),hg.tupNew hl,Rep.tupNew h2 hl,q⟩⟩⟩
  | non=>cases hx
  | bl _=>cases hx
  | int _=>cases hx
  | str _=>cases hx
  | ty _=>cases hx
noncomputable def rCat:R3:=fun x y G Q=>∃p q xs ys,x= .ref p/\y= .ref q/\G p=some (.lst xs)/\G q=some (.lst ys)/\xs.length+ys.length<=sizeLine/\∀l,G l=none->Q (.ref l) (gup G l (.lst (xs++ys)))
noncomputable def rRep:R3:=fun x y G Q=>∃p xs n,x= .ref p/\y= .int n/\G p=some (.lst xs)/\n.toNat * xs.length<=sizeLine/\n<2^62/\ -(2^62)<n/\∀l,G l=none->Q (.ref l) (gup G l (.lst (List.replicate n.toNat xs).flatten))
noncomputable def tyT (G:Gp) (T0:String) (x:T):Prop:=match x with
 | .str _=>T0="str"
 | .int _=>T0="int"
 | .ref p=>(T0="list"/\∃xs,G p=some (.lst xs))\/(T0="dict"/\((∃kvs,G p=some (.dck kvs))\/∃kvs,G p=some (.dct kvs)))
 | _=>False
theorem tyT.of {K:PySem.W.Frag} {H:Hp} {G:Gp} {T0:String} {x:T} {a:V} (hg:GRel K H G) (r:Rep K H x a) (h:tyT G T0 x):tyV K T0 a H:=by
 cases x with
 | str z=>cases (show a= .str z from r);exact h
 | int z=>cases (show a= .int z from r);exact h
 | ref p=>
  cases (show a= .ref p from r)
  rcases h with ⟨e,xs,h⟩ | ⟨e,h⟩
  ·obtain⟨vs,h1,_⟩:=hg.lst h;exact .inl ⟨e,vs,.of h1⟩
  ·refine .inr (.inr (.inl ⟨e,?_⟩))
   rcases h with ⟨kvs,h⟩ | ⟨kvs,h⟩
   ·obtain⟨ws,h1,_⟩:=hg p _ h;exact .inl ⟨ws,h1⟩
   ·obtain⟨ws,h1,_⟩:=hg p _ h;exact .inr ⟨ws,h1⟩
 | non=>exact False.elim h
 | bl _=>exact False.elim h
 | ty _=>exact False.elim h
 | tup _=>exact False.elim h
 | scr _=>exact False.elim h
def tBM (T0:String) (r:T->List T->Gp->VK3->Prop) (to:TE3) (t:TA3):TE3:=fun τ G Q=>to τ G fun x G1=>tyT G1 T0 x/\t τ G1 fun xs G2=>r x xs G2 Q
theorem e_bm {T0 id:String} {r:T->List T->Gp->VK3->Prop} {o e:Expr} {name:Str} {apos cpos:Pos} {to:TE3} (pa:PlainAttrs T0) (slot:Slot T0 name id) (hty:typeOf (.builtin id)=pure (.type "method_descriptor")) (hm:Mt3 X id r) (ho:PE3 X o to) (ha:PA3 X (e::es) t)
  (hbase:attributeBase o name X.env (eval o X.env)=eval o X.env:=by rfl)
  (hfew:((backTo cpos (starEach (e::es) X.env)).all (fun x=> !x.1)&&(backToKw cpos (keywordEach [] X.env)).all (fun x=>x.1.isSome)
   &&decide ((e::es).length+([]:List Keyword).length+(if ([]:List Keyword).isEmpty then 0 else 1)<30))=true:=by rfl)
  (hline:(apos.endLine == cpos.line)=true:=by rfl) (hs:starEach (e::es) X.env=(false,eval e X.env)::starEach es X.env:=by rfl) (hplain:(backTo cpos (starEach es X.env)).any (·.1)=false:=by rfl):
  PE3 X (.Call (.Attribute o name apos) (e::es) [] cpos) (tBM T0 r to t):=by
 intro pins s τ G H Q I h
 refine wpAny_Call_method_late hbase hfew hline rfl (thn (ho pins s τ G H _ I h) fun v s1 w_=>w_.el fun x G1 H1 e1 I1 r1 ⟨ty,q1⟩=> ?_)
 obtain⟨σ,I0,hs0,hg0⟩:=_root_.id I1
 obtain⟨a0,ra0,rv0⟩:=_root_.id r1
 obtain⟨h1,h2⟩:=tyV_is I0 rv0 (tyT.of hg0 ra0 ty)
 refine⟨T0,id,pa,slot,hty,h1,h2,?_⟩
 have hA:=ha cpos pins s1 τ G1 H1 _ I1 q1
 rw[hs] at hA ⊢
 refine Calls.callWith_builtin (by show (false||(backTo cpos (starEach es X.env)).any (·.1))=false;rw[hplain]<;>rfl) (Calls.evalArgs_plain ?_)
 exact thn hA fun us s2 w_=>w_.el fun vs G2 H2 e2 I2 r2 q2=>thn (hm pins s2 τ G2 H2 x vs v us Q I2 (r1.mono e2) r2 q2) fun _ _ z=>(z.ext e2).ext e1
def jKf:T->List T->Gp->VK3->Prop:=fun x xs G Q=>∃p ys y,x= .ref p/\xs=[y]/\G p=some (.lst ys)/\ys.length<sizeLine/\Q .non (gup G p (.lst (ys++[y])))
def kXg:T->T->T->Gp->(Gp->Prop)->Prop:=fun o i v G Q=>∃p xs k j,o= .ref p/\i= .int k/\G p=some (.lst xs)/\ixN xs.length k=some j/\Q (gup G p (.lst (xs.set j v)))
theorem s_list:Set3 X kXg:=
 Set3.of kV5 fun H G o i v a b c Q hg ra rb rc ⟨p,xs,k,j,eo,ei,hp,hj,q⟩=>by
  subst eo;subst ei
  cases (show a= .ref p from ra);cases (show b= .int k from rb)
  obtain⟨vs,h1,h2⟩:=hg.lst hp
  exact⟨p,vs,k,j,rfl,rfl,h1,by rw[<-h2.length];exact hj,_,.upd (.lst h1),hg.lstNew (h2.set rc j) (.lst h1),q⟩
end
section
variable {X:Cx}
theorem o_cat:Op3 X (binaryOp .Add) rCat:=
 Op3.of op_cat fun H G x y a b Q hg ra rb ⟨p,q,xs,ys,ex,ey,hp,hq,hz,h⟩=>by
  subst ex;subst ey
  cases (show a= .ref p from ra);cases (show b= .ref q from rb)
  obtain⟨vs,h1,h2⟩:=hg.lst hp
  obtain⟨ws,h3,h4⟩:=hg.lst hq
  exact⟨p,q,vs,ws,rfl,rfl,h1,h3,by rw[<-h2.length,<-h4.length];exact hz,fun l hl=>⟨.ref l,_,.upd (.none hl),hg.lstNew (h2.append h4) (.none hl),rfl,h l (hg.fresh hl)⟩⟩
theorem o_rep:Op3 X (binaryOp .Mult) rRep:=
 Op3.of op_rep fun H G x y a b Q hg ra rb ⟨p,xs,n,ex,ey,hp,hz,h1,h2,h⟩=>by
  subst ex;subst ey
  cases (show a= .ref p from ra);cases (show b= .int n from rb)
  obtain⟨vs,h3,h4⟩:=hg.lst hp
  refine⟨p,n,vs,rfl,rfl,h3,by omega,by omega,by rw[<-h4.length,Nat.mul_comm];exact hz,fun l hl=>⟨.ref l,_,.upd (.none hl),hg.lstNew (h4.rep _) (.none hl),rfl,h l (hg.fresh hl)⟩⟩
theorem jKx:Mt3 X "list.append" jKf:=
 Mt3.of kUt fun H G x xs a as Q hg ra ras ⟨p,ys,y,ex,exs,hp,hz,q⟩=>by
  subst ex;subst exs
  cases (show a= .ref p from ra)
  obtain⟨v,rfl,rv⟩:=jUq ras
  obtain⟨vs,h1,h2⟩:=hg.lst hp
  exact⟨p,vs,v,rfl,rfl,h1,by rw[<-h2.length];exact hz,.non,_,.upd (.lst h1),hg.lstNew (h2.append (.one rv)) (.lst h1),rfl,q⟩
end
def jQt:TS3:=fun D τ G=>D.nx τ G
def tSeq (t u:TS3):TS3:=fun D τ G=>t {D with nx:=u D} τ G
def jUk (te:TE3):TS3:=fun D τ G=>te τ G fun _ G1=>D.nx τ G1
def tRet (te:TE3):TS3:=fun D τ G=>te τ G D.rt
def tRetN:TS3:=fun D _ G=>D.rt .non G
def tIfS (c:TT3) (t u:TS3):TS3:=fun D τ G=>c τ G fun b G1=>if b=true then t D τ G1 else u D τ G1
section
variable {X:Cx} {st:Stmt} {rest:List Stmt} {t u:TS3} {e:Expr} {te:TE3} {pos:Pos}
theorem jQq:PSs3 X [] jQt:=fun _ _ τ G H _ I h=>wpAny_execs_nil ⟨τ,G,H,.refl H,I,h⟩
theorem jJf (h1:PS3 X st t) (h2:PSs3 X rest u):PSs3 X (st::rest) (tSeq t u):=by
 intro pins s τ G H D I h
 refine wpAny_execs_cons (thn (h1 pins s τ G H {D with nx:=u D} I h) fun f s1 q=> ?_)
 cases f with
 | next=>
  obtain⟨τ',G',H',e',I',q⟩:=q
  exact thn (h2 pins s1 τ' G' H' D I' q) fun _ _ z=>z.ext e'
 | ret v=>exact q
 | brk=>exact q
 | cont=>exact q
theorem jJl (h1:PS3 X st t):PSs3 X [st] t:=by
 intro pins s τ G H D I h
 refine wpAny_execs_cons (thn (h1 pins s τ G H D I h) fun f s1 q=> ?_)
 cases f with
 | next=>exact wpAny_execs_nil q
 | ret v=>exact q
 | brk=>exact q
 | cont=>exact q
theorem jUc (he:PE3 X e te) (hs:swapsWith e none pos.line X.env=pure false:=by rfl):PS3 X (.Expr e pos) (jUk te):=by
 intro pins s τ G H D I h
 obtain⟨σ,I0,hs0,hg0⟩:=id I
 exact wpAny_Expr_any (thn (he pins s τ G H _ I h) fun v s1 w_=>w_.el fun x G1 H1 e1 I1 r1 q1=>⟨τ,G1,H1,e1,I1,q1⟩) I0.quiet hs
theorem jKw (he:PE3 X e te):PS3 X (.Return (some e) pos) (tRet te):=by
 intro pins s τ G H D I h
 exact wpAny_Return_some (thn (he pins s τ G H _ I h) fun v s1 w_=>w_.el fun x G1 H1 e1 I1 r1 q1=>⟨x,τ,G1,H1,e1,I1,r1,q1⟩)
theorem s_if {c:Expr} {a b:List Stmt} {tc:TT3} (hc:PT3 X c tc) (ha:PSs3 X a t) (hb:PSs3 X b u):PS3 X (.If c a b pos) (tIfS tc t u):=by
 intro pins s τ G H D I h
 refine wpAny_If (thn (hc pins s τ G H _ I h) fun d s1 w_=>w_.el fun G1 H1 e1 I1 q1=> ?_)
 cases d with
 | true=>exact thn (ha pins s1 τ G1 H1 D I1 q1) fun _ _ z=>z.ext e1
 | false=>exact thn (hb pins s1 τ G1 H1 D I1 q1) fun _ _ z=>z.ext e1
end
abbrev TG3:=T->St3->Gp->(St3->Gp->Prop)->Prop
abbrev TGs3:=List T->St3->Gp->(St3->Gp->Prop)->Prop
def GP3 (X:Cx) (pins:List (Addr×Obj)) (H:Hp) (Q:St3->Gp->Prop) (s':Shared):Prop:=∃ τ' G' H',Ext H H'/\Inv3 X pins τ' G' H' s'/\Q τ' G'
noncomputable def PG3 (X:Cx) (target:Expr) (t:TG3):Prop:=
 ∀(pins:List (Addr×Obj)) (s:Shared) (τ:St3) (G:Gp) (H:Hp) (v:T) (u:Value) (Q:St3->Gp->Prop),Inv3 X pins τ G H s->RU X.K H v u->t v τ G Q->
  wpAny (model X.prog X.w) X.A (assign target X.env u) (fun _ s'=>GP3 X pins H Q s') X.xe s
noncomputable def PGs3 (X:Cx) (ts:List Expr) (t:TGs3):Prop:=
 ∀(pins:List (Addr×Obj)) (s:Shared) (τ:St3) (G:Gp) (H:Hp) (vs:List T) (us:List Value) (Q:St3->Gp->Prop),Inv3 X pins τ G H s->RUs X.K H vs us->t vs τ G Q->
  wpAny (model X.prog X.w) X.A (assignInOrder ((assignEach ts X.env).map (·.2)) us) (fun _ s'=>GP3 X pins H Q s') X.xe s
def jJg (i:Nat):TG3:=fun v τ G Q=>Q (τ.set i (some v)) G
def gNil:TGs3:=fun vs τ G Q=>vs=[]/\Q τ G
def jJx (t:TG3) (u:TGs3):TGs3:=fun vs τ G Q=>∃v r,vs=v::r/\t v τ G fun τ' G'=>u r τ' G' Q
def gTup (n:Nat) (t:TGs3):TG3:=fun v τ G Q=>∃xs,v= .tup xs/\xs.length=n/\t xs τ G Q
def gSub (to ti:TE3) (t:T->T->T->Gp->(Gp->Prop)->Prop):TG3:=fun v τ G Q=>to τ G fun o G1=>ti τ G1 fun i G2=>t o i v G2 fun G3=>Q τ G3
def tAsg (te:TE3) (g:TG3):TS3:=fun D τ G=>te τ G fun x G1=>g x τ G1 D.nx
section
variable {X:Cx} {pos:Pos}
theorem jJm {i:Nat} {x:Str} (hN:X.N.Nodup) (hi:X.N[i]? =some x:=by rfl) (hx:Loc X.env.scope x:=by first | exact Or.inl rfl | exact Or.inr rfl) (hf:X.fn x=true\/X.env.scope.names.lookup x=some .local:=by first | exact .inl rfl | exact .inr rfl):PG3 X (.Name x pos) (jJg i):=by
 rintro pins s τ G H v u Q ⟨σ,I,hs,hg⟩ ⟨a,ra,rv⟩ h
 exact wpAny_assign_Name (jK3 I hN hi hx rv (fun s' I'=>⟨_,G,H,.refl H,⟨_,I',hs.set i ra,hg⟩,h⟩) hf)
theorem jKm:PGs3 X [] gNil:=by
 rintro pins s τ G H vs us Q I ⟨as,r,rv⟩ ⟨e,h⟩
 subst e
 cases (show as=[] from r)
 cases rv
 exact assignInOrder_nil ⟨τ,G,H,.refl H,I,h⟩
theorem jJp {e:Expr} {es:List Expr} {t:TG3} {u:TGs3} (h1:PG3 X e t) (h2:PGs3 X es u)
  (hs:(assignEach (e::es) X.env).map (·.2)=assign e X.env::(assignEach es X.env).map (·.2):=by rfl):PGs3 X (e::es) (jJx t u):=by
 rintro pins s τ G H vs us Q I ⟨as,r,rv⟩ ⟨v,vr,e1,h⟩
 subst e1
 obtain⟨a,ar,rfl,ra,rar⟩:=r
 cases rv with
 | cons q qq=>
  rw[hs]
  refine assignInOrder_cons (thn (h1 pins s τ G H v _ _ I ⟨a,ra,q⟩ h) fun _ s1 ⟨τ1,G1,H1,e1,I1,q1⟩=> ?_)
  exact thn (h2 pins s1 τ1 G1 H1 vr _ Q I1 ⟨ar,Reps.mono e1 _ rar,qq⟩ q1) fun _ s2 ⟨τ2,G2,H2,e2,z⟩=>⟨τ2,G2,H2,e1.trans e2,z⟩
theorem jQ0 {es:List Expr} {k:Nat} {t:TGs3} {n:Nat} (hc:X.calm=true) (h:PGs3 X es t)
  (hn:(assignEach es X.env).length=n:=by rfl) (hst:(assignEach es X.env).findIdx? (·.1)=none:=by rfl):PG3 X (.Tuple es k pos) (gTup n t):=by
 rintro pins s τ G H v u Q ⟨σ,I,hs,hg⟩ ⟨a,ra,rv⟩ ⟨xs,ev,hl,hw⟩
 subst ev
 obtain⟨p,vs,e1,h1,r1⟩:=(show ∃p vs,a= .ref p/\H p=some (.tup vs)/\Reps X.K H xs vs from ra)
 subst e1
 cases rv
 obtain⟨its,rv,ht,hz⟩:=I.tuple (.of h1)
 refine assign_Tuple_tuple (I.ok.hd hc) ht (by simp[hn,<-hl,r1.length,rv.length]) hst fun h' hx=> ?_
 have I1:Inv X pins σ H {s with heap:=h'}:=I.kept (t':=s.toks) fun b o e=>hx b o (Nat.ne_of_lt (Heap.lt_size e)) e
 exact h pins _ τ G H xs _ Q ⟨σ,I1,hs,hg⟩ ⟨vs,r1,by simpa using rv⟩ hw
theorem jU6 {o i:Expr} {to ti:TE3} {t:T->T->T->Gp->(Gp->Prop)->Prop} (ho:PE3 X o to) (hi:PE3 X i ti) (hs:Set3 X t)
  (ha:∀v,assign (.Subscript o i pos) X.env v=(do
   let ov <-holding [v] (eval o X.env)
   let iv <-holding [v,ov] (eval i X.env)
   standAt pos
   holding [v,ov,iv] (setItem ov iv v)
   release [v,ov,iv] []):=by intro _;rfl):PG3 X (.Subscript o i pos) (gSub to ti t):=by
 intro pins s τ G H v u Q I r h
 rw[ha]
 refine wpAny_bind (wpAny_holding (thn (ho pins s τ G H _ I h) fun ov s1 w_=>w_.el fun x G1 H1 e1 I1 r1 q1=> ?_))
 refine wpAny_bind (wpAny_holding (thn (hi pins s1 τ G1 H1 _ I1 q1) fun iv s2 w_=>w_.el fun y G2 H2 e2 I2 r2 q2=> ?_))
 refine wpAny_bind (wpAny_standAt (wpAny_bind (wpAny_holding (thn (hs pins s2 τ G2 H2 x y v ov iv u _ I2 (r1.mono e2) r2 (r.mono (e1.trans e2)) q2) fun _ s3 ⟨G3,H3,e3,I3,q3⟩=> ?_))))
 exact wpAny_release ⟨τ,G3,H3,(e1.trans e2).trans e3,I3,q3⟩
theorem jUp {tg e:Expr} {te:TE3} {g:TG3} (he:PE3 X e te) (hg:PG3 X tg g) (hs:swapsWithSole [tg] e pos.line X.env=pure false:=by rfl) (hw:swappedStores [tg] e X.env=pure none:=by rfl)
  (h1:(assignEach [tg] X.env).map (·.2)=[assign tg X.env]:=by rfl):PS3 X (.Assign [tg] e pos) (tAsg te g):=by
 intro pins s τ G H D I h
 refine wpAny_Assign_stores (thn (he pins s τ G H _ I h) fun v s1 w_=>w_.el fun x G1 H1 e1 I1 r1 q1=> ?_) hs hw
 rw[h1]
 exact thn (hg pins s1 τ G1 H1 x v _ I1 r1 q1) fun _ s2 ⟨τ2,G2,H2,e2,q⟩=>⟨τ2,G2,H2,e1.trans e2,q⟩
theorem jJ2 {i:Nat} {x:Str} {e:Expr} {te:TE3} {pos':Pos} (hN:X.N.Nodup) (he:PE3 X e te) (hi:X.N[i]? =some x:=by rfl) (hx:Loc X.env.scope x:=by first | exact Or.inl rfl | exact Or.inr rfl)
  (hs:swapsWith e (some (.Name x pos')) pos.line X.env=pure false:=by rfl) (hf:X.fn x=true\/X.env.scope.names.lookup x=some .local:=by first | exact .inl rfl | exact .inr rfl):
  PS3 X (.Assign [.Name x pos'] e pos) (tAsg te (jJg i)):=by
 intro pins s τ G H D I h
 refine wpAny_Assign_Name (thn (he pins s τ G H _ I h) fun v s1 w_=>w_.el fun y G1 H1 e1 i_ r_ q1=>i_.el fun σ I1 hs1 hg1=>r_.el fun a ra rv=> ?_) hs
 exact jK3 I1 hN hi hx rv (fun s2 I2=>⟨_,G1,H1,e1,⟨_,I2,hs1.set i ra,hg1⟩,q1⟩) hf
def tPar (i j:Nat) (ta:TA3):TS3:=fun D τ G=>ta τ G fun vs G1=>∃v w,vs=[v,w]/\D.nx ((τ.set i (some v)).set j (some w)) G1
theorem s_par {i j:Nat} {x y:Str} {a b:Expr} {ta:TA3} {px py pt:Pos} {kt k2 pt2} (hc:X.calm=true) (hN:X.N.Nodup) (hij:i≠j) (ha:PA3 X [a,b] ta) (hi:X.N[i]? =some x:=by rfl) (hj:X.N[j]? =some y:=by rfl)
  (hx:X.env.scope.names.lookup x=some .local:=by rfl) (hy:X.env.scope.names.lookup y=some .local:=by rfl)
  (hw:swappedStores [.Tuple [.Name x px,.Name y py] kt pt] (.Tuple [a,b] k2 pt2) X.env=pure (some [x,y]):=by rfl)
  (hs:swapsWithSole [.Tuple [.Name x px,.Name y py] kt pt] (.Tuple [a,b] k2 pt2) pos.line X.env=pure false:=by rfl):
  PS3 X (.Assign [.Tuple [.Name x px,.Name y py] kt pt] (.Tuple [a,b] k2 pt2) pos) (tPar i j ta):=by
 intro pins s τ G H D I h
 rw[exec_Assign_arm]
 refine wpAny_bind (wpAny_standAt ?_)
 rw[hs]
 refine wpAny_bind (wpAny_pure ?_)
 rw[if_neg (by decide)]
 refine wpAny_bind (Tuple_ (thn (ha _ pins s τ G H _ I h) fun us s1 w_=>w_.el fun vs G1 H1 e1 i_ r_ q1=>i_.el fun σ I1 hs1 hg1=>r_.el fun as ras rvs=> ?_))
 obtain⟨v,w,ev,q1⟩:=q1
 subst ev
 obtain⟨a1,a2,rfl,ra1,ra2⟩:=jZ4 ras
 obtain⟨u1,u2,rfl,rv,rw'⟩:=rvs.two
 refine wpAny_newObj_type ?_ (by show 2<=sizeLine;decide)
 have I2:Inv X pins σ H1 {s1 with heap:=s1.heap.push {cls:= .type "tuple",data:= .seq [u1,u2].toArray} }:=I1.kept (t':=s1.toks) fun b o e=>Heap.get?_push_of_some _ e
 rw[hw]
 refine wpAny_bind (wpAny_pure ?_)
 show wpAny (model X.prog X.w) X.A (do rule "assign.swapped-stores"; let items <-unpackItems (.ref s1.heap.objs.size) 2 none;assignInOrder [fun v=>bindName X.env y v,fun v=>bindName X.env x v] items.reverse;pure Flow.next) _ _ _
 refine wpAny_bind (wpAny_rule (wpAny_bind (unpackItems_tuple (items:= #[u1,u2]) (I1.ok.hd hc) (IsTup.new s1.heap _) fun h' hx'=> ?_)))
 have I3:=I2.kept (h':=h') (t':=s1.toks) fun b o e=>hx' b o (Nat.ne_of_lt (Heap.lt_size e)) e
 show wpAny _ _ (assignInOrder [fun v=>bindName X.env y v,fun v=>bindName X.env x v] [u2,u1] >>= fun _=>pure Flow.next) _ _ _
 refine wpAny_bind (assignInOrder_cons (wpAny_bindName (jK3 I3 hN hj (.inl hy) rw' (fun s2 I4=> ?_) (.inr hy))))
 refine assignInOrder_cons (wpAny_bindName (jK3 I4 hN hi (.inl hx) rv (fun s3 I5=>assignInOrder_nil (wpAny_pure ?_)) (.inr hx)))
 rw[List.set_comm _ _ (Ne.symm hij)] at I5
 exact⟨_,G1,H1,e1,⟨_,I5,(hs1.set i ra1).set j ra2,hg1⟩,q1⟩
noncomputable def jY3 (c:TT3) (tb:TS3):TS3:=fun D τ G=>∃W:Nat->St3->Gp->Prop,(∃m,W m τ G)/\∀m τ G,W m τ G->
 c τ G fun b G1=>if b=true then ∃N:St3->Gp->Prop,(∀ τ' G',N τ' G'->∃m',m'<m/\W m' τ' G')/\tb {D with nx:=N,ct:=N,bk:=D.nx} τ G1 else D.nx τ G1
theorem kQ3 {c:Expr} {body:List Stmt} {tc:TT3} {tb:TS3} (hp:PassesOwn (model X.prog X.w) X.A X.env X.xe) (hc:PT3 X c tc) (hb:PSs3 X body tb):PS3 X (.While c body [] pos) (jY3 tc tb):=by
 intro pins s τ G H D I h
 obtain⟨W,⟨m0,w0⟩,turn⟩:=h
 refine wpAny_While (codeAny_whileLoop (fun n s'=>∃ τ' G' H',Ext H H'/\Inv3 X pins τ' G' H' s'/\W n τ' G') ?_ m0 ⟨τ,G,H,.refl H,I,w0⟩)
 rintro n s1 ⟨τ1,G1,H1,e1,I1,w1⟩
 refine wpAny_passesOwn hp (thn (hc pins s1 τ1 G1 H1 _ I1 (turn n τ1 G1 w1)) fun b s2 w_=>w_.el fun G2 H2 e2 I2 q2=> ?_)
 cases b with
 | true=>
  obtain⟨N,hN,q2⟩:=q2
  rw[if_pos rfl]
  refine wpAny_passesOwn hp (thn (hb pins s2 τ1 G2 H2 _ I2 q2) fun f s3 q3=> ?_)
  cases f with
  | next=>
   obtain⟨τ3,G3,H3,e3,I3,n3⟩:=q3
   obtain⟨m',hm,w3⟩:=hN τ3 G3 n3
   exact⟨m',hm,τ3,G3,H3,(e1.trans e2).trans e3,I3,w3⟩
  | cont=>
   obtain⟨τ3,G3,H3,e3,I3,n3⟩:=q3
   obtain⟨m',hm,w3⟩:=hN τ3 G3 n3
   exact⟨m',hm,τ3,G3,H3,(e1.trans e2).trans e3,I3,w3⟩
  | brk=>exact SP3.ext (f:= .next) (e1.trans e2) q3
  | ret v=>exact SP3.ext (f:= .ret v) (e1.trans e2) q3
 | false=>
  rw[if_neg Bool.false_ne_true]
  exact wpAny_execs_nil ⟨τ1,G2,H2,e1.trans e2,I2,q2⟩
end
noncomputable def qJ7 (K:PySem.W.Frag) (H0:Hp) (J:It) (xs:List T) (stay:Gp->Prop):Prop:=
 ∀i H G,Ext H0 H->GRel K H G->stay G->(i<xs.length->J.go i H)/\(xs.length<=i->J.stop i H)/\(i<xs.length->∀x H',J.yld i H x H'->Ext H H'/\GRel K H' G/\∃t,xs[i]? =some t/\Rep K H' t x)
abbrev TI3:=St3->Gp->(List T->(Gp->Prop)->Gp->Prop)->Prop
noncomputable def PIE3 (X:Cx) (pins:List (Addr×Obj)) (τ:St3) (H:Hp) (tg:Expr) (R:List T->(Gp->Prop)->Gp->Prop) (itv:Value) (s2:Shared):Prop:=
 ∃(it:Addr) (fp:List Addr) (tn:Nat->Heap->Prop) (J:It) (xs:List T) (stay:Gp->Prop) (G':Gp) (H':Hp),itv= .ref it/\Ext H H'/\Inv3 X pins τ G' H' s2/\Turn X.prog X.w X.K tg J fp it tn/\tn 0 s2.heap/\(∀b∈fp,FpOk X pins H' b)/\
  qJ7 X.K H' J xs stay/\R xs stay G'
noncomputable def PI3 (X:Cx) (tg iter:Expr) (wi:TI3):Prop:=
 ∀(pins:List (Addr×Obj)) (s:Shared) (τ:St3) (G:Gp) (H:Hp) (R:List T->(Gp->Prop)->Gp->Prop),Inv3 X pins τ G H s->wi τ G R->
  wpAny (model X.prog X.w) X.A (eval iter X.env) (fun v s1=>wpAny (model X.prog X.w) X.A (pyIter v) (PIE3 X pins τ H tg R) X.xe s1) X.xe s
noncomputable def tFor (wi:TI3) (g:TG3) (tb:TS3):TS3:=fun D τ G=>wi τ G fun xs stay G1=>∃P:Nat->St3->Gp->Prop,P 0 τ G1/\(∀i τ G,i<=xs.length->P i τ G->stay G)/\
 (∀i x τ G,xs[i]? =some x->P i τ G->g x τ G fun τ2 G2=>tb {D with nx:=P (i+1),ct:=P (i+1),bk:=D.nx} τ2 G2)/\∀ τ G,P xs.length τ G->D.nx τ G
section
variable {X:Cx} {tg:Expr} {pos:Pos}
theorem jKs {iter:Expr} {body:List Stmt} {wi:TI3} {g:TG3} {tb:TS3} (hp:PassesOwn (model X.prog X.w) X.A X.env X.xe) (hc:X.calm=true) (hi:PI3 X tg iter wi) (hg:PG3 X tg g) (hb:PSs3 X body tb)
  (hs:∀x,foldedSetIterable iter X.env x=pure x:=by intro _;rfl):PS3 X (.For tg iter body [] pos) (tFor wi g tb):=by
 intro pins s τ G H D I h
 refine wpAny_For (thn (hi pins s τ G H _ I h) fun v s1 h1=>thn h1 fun itv s2 h2=> ?_) hs
 obtain⟨it,fp,tn,J,xs,stay,G2,H2,e,eH,I2,T0,st2,f2,IT,P,p0,hstay,turn,fin⟩:=h2
 subst e
 have stat:∀ {H':Hp},(∀b∈fp,H' b=none)->∀b∈fp,FpOk X pins H' b:=fun hn b hb=>⟨hn b hb,(f2 b hb).2⟩
 refine codeAny_forLoop_any (fun n s'=>∃i τ' G' H',n=xs.length-i/\i<=xs.length/\Ext H2 H'/\Inv3 X pins τ' G' H' s'/\tn i s'.heap/\(∀b∈fp,H' b=none)/\P i τ' G') ?_ xs.length ⟨0,τ,G2,H2,rfl,Nat.zero_le _,.refl _,I2,st2,fun b hb=>(f2 b hb).1,p0⟩
 rintro n s3 ⟨i,τ3,G3,H3,en,hi3,e3,⟨σ3,I3,hs3,hg3⟩,st3,fr3,p3⟩
 obtain⟨go,stop,yl⟩:=IT i H3 G3 e3 hg3 (hstay i τ3 G3 hi3 p3)
 by_cases hlt:i<xs.length
 ·refine wpAny_passesOwn hp (thn (T0.item X rfl rfl rfl hc i pins s3 σ3 H3 X.xe I3 (stat fr3) st3 (go hlt)) fun r s4 ⟨u,hr,h4⟩=> ?_)
  subst hr
  refine wpAny_passesOwn hp (thn h4 fun _ s5 ⟨x,H5,I5,r5,y5,st5,fr5⟩=> ?_)
  obtain⟨e5,g5,t,ht,rt⟩:=yl hlt x H5 y5
  have I5':=I5.pinned (stat fr5) (T0.obj _ _ st5)
  refine wpAny_passesOwn hp (thn (hg _ s5 τ3 G3 H5 t u _ ⟨σ3,I5',hs3.mono e5,g5⟩ ⟨x,rt,r5⟩ (turn i t τ3 G3 ht p3)) fun _ s6 ⟨τ6,G6,H6,e6,I6,q6⟩=> ?_)
  refine wpAny_passesOwn hp (thn (hb _ s6 τ6 G6 H6 _ I6 q6) fun f s7 q7=> ?_)
  have e36:Ext H2 H6:=(e3.trans e5).trans e6
  have again:∀ {τ7:St3} {G7:Gp} {H7:Hp},Ext H6 H7->Inv3 X (pins++jUd fp s5.heap) τ7 G7 H7 s7->P (i+1) τ7 G7->
    ∃m,m<n/\∃i τ' G' H',m=xs.length-i/\i<=xs.length/\Ext H2 H'/\Inv3 X pins τ' G' H' s7/\tn i s7.heap/\(∀b∈fp,H' b=none)/\P i τ' G':=fun {τ7 G7 H7} e7 ⟨σ7,I7,hs7,hg7⟩ p7=>by
   refine⟨xs.length-(i+1),by omega,i+1,τ7,G7,H7,rfl,hlt,e36.trans e7,⟨σ7,I7.unpinned,hs7,hg7⟩,T0.keep _ _ _ st5 fun b hb o e=>(I7.pin (b,o) (List.mem_append_right _ (List.mem_append_right _ (jQ9 hb e)))).1,fun b hb=> ?_,p7⟩
   obtain⟨o,e,d⟩:=T0.obj _ _ st5 b hb
   exact (I7.pin (b,o) (List.mem_append_right _ (List.mem_append_right _ (jQ9 hb e)))).2.1
  have un:∀ {τ7:St3} {G7:Gp} {H7:Hp},Inv3 X (pins++jUd fp s5.heap) τ7 G7 H7 s7->Inv3 X pins τ7 G7 H7 s7:=fun ⟨σ7,I7,a,b⟩=>⟨σ7,I7.unpinned,a,b⟩
  cases f with
  | next=>obtain⟨τ7,G7,H7,e7,I7,n7⟩:=q7;exact again e7 I7 n7
  | cont=>obtain⟨τ7,G7,H7,e7,I7,n7⟩:=q7;exact again e7 I7 n7
  | brk=>obtain⟨τ7,G7,H7,e7,I7,q7⟩:=q7;exact⟨τ7,G7,H7,(eH.trans e36).trans e7,un I7,q7⟩
  | ret v=>obtain⟨x7,τ7,G7,H7,e7,I7,r7,q7⟩:=q7;exact⟨x7,τ7,G7,H7,(eH.trans e36).trans e7,un I7,r7,q7⟩
 ·have ei:i=xs.length:=by omega
  refine wpAny_passesOwn hp (thn (T0.done X rfl rfl rfl hc i pins s3 σ3 H3 X.xe I3 (stat fr3) st3 (stop (by omega))) fun r s4 ⟨hr,I4⟩=> ?_)
  subst hr;subst ei
  exact wpAny_execs_nil ⟨τ3,G3,H3,eH.trans e3,⟨σ3,I4,hs3,hg3⟩,fin τ3 G3 p3⟩
def iSeq (tl:TE3):TI3:=fun τ G R=>tl τ G fun x G1=>∃xs,seqT G1 x=some xs/\R xs (fun G'=>seqT G' x=some xs) G1
theorem jQz {l:Expr} {tl:TE3} (hl:PE3 X l tl):PI3 X tg l (iSeq tl):=by
 intro pins s τ G H R I h
 refine thn (hl pins s τ G H _ I h) fun v s1 w_=>w_.el fun x G1 H1 e1 i_ r_ ⟨xs,hx,q⟩=>i_.el fun σ I1 hs1 hg1=>r_.el fun a ra rv=> ?_
 obtain⟨p,vs,e,hq,r⟩:=jQe hg1 ra hx
 subst e
 cases rv
 have fpk:∀b∈[s1.heap.objs.size],FpOk X pins H1 b:=fun b hb=>by
  have e:b=s1.heap.objs.size:=by simpa using hb
  subst e
  exact I1.fpOk (Nat.le_refl _) (I1.hok.fresh (Nat.le_refl _))
 rcases hq with hq | hq
 ·obtain⟨its,rv,pl,hz⟩:=I1.list hq
  refine wpAny_pyIter_list pl.isList ?_
  refine⟨s1.heap.objs.size,[s1.heap.objs.size],_,_,xs,fun G'=>seqT G' x=some xs,G1,H1,rfl,e1,⟨σ,I1.kept (t':=s1.toks) fun b o e=>Heap.get?_push_of_some _ e,hs1,hg1⟩,kQs p _,⟨_,Heap.get?_push_size _ rfl,rfl,rfl⟩,fpk,?_,q⟩
  intro i H2 G2 e2 g2 st
  have ra2:=Rep.mono e2 _ ra
  have now:∃ws,SqL X.K H2 p ws/\Reps X.K H2 xs ws:=by
   cases x with
   | scr ys=>cases hx;obtain⟨p',ws,ep,h1,h2⟩:=(show ∃p' ws,V.ref p= .ref p'/\FrL X.K H2 p' ws/\Reps X.K H2 xs ws from ra2);cases ep;exact⟨ws,h1.sq,h2⟩
   | ref p'=>cases (show V.ref p= .ref p' from ra);obtain⟨ws,h1,h2⟩:=g2.lst (jUv st);exact⟨ws,.of h1,h2⟩
   | tup ys=>
    obtain⟨p',ws,ep,h1,h2⟩:=(show ∃p' ws,V.ref p= .ref p'/\H1 p'=some (.tup ws)/\Reps X.K H1 ys ws from ra)
    cases ep
    exfalso
    obtain⟨its',_,pl',_⟩:=I1.tuple (.of h1)
    obtain⟨o,n,ho,hc,_⟩:=pl
    obtain⟨o',ho',hc',_⟩:=pl'
    rw[ho] at ho';cases ho'
    rw[hc] at hc';exact absurd hc' (by decide)
   | non=>cases hx
   | bl _=>cases hx
   | int _=>cases hx
   | str _=>cases hx
   | ty _=>cases hx
  obtain⟨ws,h1,h2⟩:=now
  have hlen:=h2.length
  refine⟨fun hi=> ?_,fun hi=>⟨ws,h1,by omega⟩,fun _ y H' ⟨eH,hy⟩=> ?_⟩
  ·exact⟨ws,ws[i]'(by omega),h1,by simp[hlen▸hi]⟩
  ·subst eH
   obtain⟨t,ht,rt⟩:=h2.get' (hy ws h1)
   exact⟨.refl _,g2,t,ht,rt⟩
 ·obtain⟨its,rv,pl,hz⟩:=I1.tuple hq
  refine wpAny_pyIter_tuple (show s1.heap.IsTuple p its.toArray from pl) ?_
  refine⟨s1.heap.objs.size,[s1.heap.objs.size],_,_,xs,fun G'=>seqT G' x=some xs,G1,H1,rfl,e1,⟨σ,I1.kept (t':=s1.toks) fun b o e=>Heap.get?_push_of_some _ e,hs1,hg1⟩,kKx p _,⟨_,Heap.get?_push_size _ rfl,rfl,rfl⟩,fpk,?_,q⟩
  intro i H2 G2 e2 g2 st
  have ra2:=Rep.mono e2 _ ra
  have now:∃ws,H2 p=some (.tup ws)/\Reps X.K H2 xs ws:=by
   cases x with
   | tup ys=>cases hx;obtain⟨p',ws,ep,h1,h2⟩:=(show ∃p' ws,V.ref p= .ref p'/\H2 p'=some (.tup ws)/\Reps X.K H2 xs ws from ra2);cases ep;exact⟨ws,h1,h2⟩
   | scr ys=>
    obtain⟨p',ws,ep,h1,h2⟩:=(show ∃p' ws,V.ref p= .ref p'/\FrL X.K H1 p' ws/\Reps X.K H1 ys ws from ra)
    cases ep
    exfalso
    obtain⟨its',_,pl',_⟩:=I1.list h1.sq
    obtain⟨o,n,ho,hc,_⟩:=pl'
    obtain⟨o',ho',hc',_⟩:=pl
    rw[ho] at ho';cases ho'
    rw[hc] at hc';exact absurd hc' (by decide)
   | ref p'=>
    cases (show V.ref p= .ref p' from ra)
    obtain⟨ws,h1,h2⟩:=hg1.lst (jUv hx)
    exfalso
    obtain⟨its',_,pl',_⟩:=I1.list (.of h1)
    obtain⟨o,n,ho,hc,_⟩:=pl'
    obtain⟨o',ho',hc',_⟩:=pl
    rw[ho] at ho';cases ho'
    rw[hc] at hc';exact absurd hc' (by decide)
   | non=>cases hx
   | bl _=>cases hx
   | int _=>cases hx
   | str _=>cases hx
   | ty _=>cases hx
  obtain⟨ws,h1,h2⟩:=now
  have hlen:=h2.length
  refine⟨fun hi=> ?_,fun hi=>⟨ws,.of h1,by omega⟩,fun _ y H' ⟨eH,hy⟩=> ?_⟩
  ·exact⟨ws,ws[i]'(by omega),.of h1,by simp[hlen▸hi]⟩
  ·subst eH
   obtain⟨t,ht,rt⟩:=h2.get' (hy ws (.of h1))
   exact⟨.refl _,g2,t,ht,rt⟩
def rngT (lo:Int) (n:Nat):List T:=(List.range n).map fun (k:Nat)=>T.int (lo+k)
def jKb (ta:TA3):TI3:=fun τ G R=>ta τ G fun vs G1=>∃j:Int,vs=[.int j]/\ -(2^62)<=j/\j<2^62/\R (rngT 0 j.toNat) (fun _=>True) G1
def qJn (ta:TA3):TI3:=fun τ G R=>ta τ G fun vs G1=>∃i j:Int,vs=[.int i,.int j]/\(-(2^62)<=i/\i<2^62/\ -(2^62)<=j/\j<2^62)/\R (rngT i (j-i).toNat) (fun _=>True) G1
theorem jZi {K:PySem.W.Frag} {H:Hp} (lo:Int) (n:Nat):qJ7 K H (Itr lo n) (rngT lo n) fun _=>True:=by
 intro i H' G e g _
 have hl:(rngT lo n).length=n:=by simp[rngT]
 refine⟨fun h=>by rw[hl] at h;exact h,fun h=>by rw[hl] at h;exact h,fun hi x H2 ⟨eH,ex⟩=> ?_⟩
 rw[hl] at hi
 subst eH;subst ex
 exact⟨.refl _,g,.int (lo+i),by simp[rngT,hi],rfl⟩
theorem jJ6 {a:Expr} {ta:TA3} {p:Pos} (hg:Gl X "range") (hm:X.mg "range"=none) (ha:PA3 X [a] ta) (hs:starEach [a] X.env=[(false,eval a X.env)]:=by rfl):PI3 X tg (.Call (.Name "range" p) [a] [] pos) (jKb ta):=by
 intro pins s τ G H R I h
 obtain⟨σ,I0,hs0,hg0⟩:=id I
 refine Call_ (jK1 I0 hg hm boot_range (PyProof.Rows.callWith_type1 (thn (ha pos pins s τ G H _ I h) fun us s1 w_=>w_.el fun xs G1 H1 e1 i_ r_ q1=>i_.el fun σ I1 hs1 hg1=>r_.el fun as ras rvs=> ?_) hs rfl))
 obtain⟨j,e,q1,q2,q⟩:=q1
 subst e
 obtain⟨v,rfl,rv⟩:=jUq ras
 cases (show v= .int j from rv)
 obtain⟨u,rfl,ru⟩:=rvs.one
 obtain⟨t,rfl⟩:=ru
 refine call_range_1 (thn (kKa (tg:=tg) (R:=fun J H'=>J=Itr 0 j.toNat/\H'=H1) I1 (by omega) (by omega) q1 q2 ⟨by simp,rfl⟩) fun itv s2 z=> ?_)
 obtain⟨it,fp,tn,J,H',ei,I2,T0,st,fk,eJ,eH⟩:=z
 subst eJ;subst eH
 exact⟨it,fp,tn,_,rngT 0 j.toNat,fun _=>True,G1,H',ei,e1,⟨σ,I2,hs1,hg1⟩,T0,st,fk,jZi 0 j.toNat,q⟩
theorem kX9 {a b:Expr} {ta:TA3} {p:Pos} (hg:Gl X "range") (hm:X.mg "range"=none) (ha:PA3 X [a,b] ta) (hs:starEach [a,b] X.env=[(false,eval a X.env),(false,eval b X.env)]:=by rfl) (hs2:starEach [b] X.env=[(false,eval b X.env)]:=by rfl):
  PI3 X tg (.Call (.Name "range" p) [a,b] [] pos) (qJn ta):=by
 intro pins s τ G H R I h
 obtain⟨σ,I0,hs0,hg0⟩:=id I
 refine Call_ (jK1 I0 hg hm boot_range (PyProof.Rows.callWith_type1 (thn (ha pos pins s τ G H _ I h) fun us s1 w_=>w_.el fun xs G1 H1 e1 i_ r_ q1=>i_.el fun σ I1 hs1 hg1=>r_.el fun as ras rvs=> ?_) (by rw[hs,hs2]) (by rw[hs2];rfl)))
 obtain⟨i,j,e,⟨q1,q2,q3,q4⟩,q⟩:=q1
 subst e
 obtain⟨v,w,rfl,rv,rw'⟩:=jZ4 ras
 cases (show v= .int i from rv);cases (show w= .int j from rw')
 obtain⟨u,u',rfl,ru,ru'⟩:=rvs.two
 obtain⟨t,rfl⟩:=ru
 obtain⟨t',rfl⟩:=ru'
 refine call_range_2 (thn (kKa (tg:=tg) (R:=fun J H'=>J=Itr i (j-i).toNat/\H'=H1) I1 q1 q2 q3 q4 ⟨rfl,rfl⟩) fun itv s2 z=> ?_)
 obtain⟨it,fp,tn,J,H',ei,I2,T0,st,fk,eJ,eH⟩:=z
 subst eJ;subst eH
 exact⟨it,fp,tn,_,rngT i (j-i).toNat,fun _=>True,G1,H',ei,e1,⟨σ,I2,hs1,hg1⟩,T0,st,fk,jZi i (j-i).toNat,q⟩
end
abbrev Sp3:=List T->Gp->VK3->Prop
def dn (K:PySem.W.Frag) (n:Nat) (sp:Sp3):Sp:=fun vs H Q _=>vs.length=n/\∃xs G,Reps K H xs vs/\GRel K H G/\sp xs G fun t G'=>∀v H',Ext H H'->GRel K H' G'->Rep K H' t v->Q v H'
noncomputable def Fn3 (P:Program) (w:World) (K:PySem.W.Frag) (mg:Str->Option Value) (base:Heap) (k:Nat) (f:Addr) (fd:FuncData) (ps:List Str) (sp:Sp3):Prop:=FnOk P w K mg base CX0 k f fd ps (dn K ps.length sp)
def jJw (sp:Sp3) (t:TA3):TE3:=fun τ G Q=>t τ G fun xs G1=>sp xs G1 Q
def Mono (sp:Sp3):Prop:=∀xs G Q Q',(∀t G',Q t G'->Q' t G')->sp xs G Q->sp xs G Q'
def jQp (N:List Str) (xs:List T):St3:=xs.map some++List.replicate (N.length-xs.length) none
theorem jY5 {K:PySem.W.Frag} {H:Hp} {N:List Str} {xs:List T} {vs:List V} (r:Reps K H xs vs):SRel K H (start N vs) (jQp N xs):=by
 have hl:=r.length
 refine⟨by simp[L2.start,jQp,hl],fun i t h=> ?_⟩
 unfold jQp at h
 unfold L2.start
 by_cases hi:i<xs.length
 ·rw[List.getElem?_append_left (by simpa using hi),List.getElem?_map] at h
  cases e:xs[i]? with
  | none=>rw[e] at h;cases h
  | some x=>
   rw[e] at h;cases h
   obtain⟨v,hv,rv⟩:=r.get e
   exact⟨v,by rw[List.getElem?_append_left (by simp;omega),List.getElem?_map,hv];rfl,rv⟩
 ·rw[List.getElem?_append_right (by simpa using hi),List.getElem?_replicate] at h
  split at h<;>cases h
theorem fn3 {P:Program} {w:World} {K:PySem.W.Frag} {mg:Str->Option Value} {base:Heap} {x qual:Str} {st:Stmt} {f:Addr} {fd:FuncData} {N ps:List Str} {k:Nat} {sp:Sp3} (F:Fun K x qual st f fd) (S:FnScope N ps (jJo st))
  (hbody:∀(cdv:Value) (A:Around) (outer:List Env) (s:Shared) (H:Hp) (E:XK),Room k (A.deeper (envOfC qual (jJo st) s.heap.objs.size f cdv))->
   ∃t,PSs3 (cxOf CX0 P w K mg base N qual (jJo st) f cdv A outer s H E).nox (jKv st) t/\∀xs G Q,sp xs G Q->t {nx:=fun _ G'=>Q .non G',rt:=Q} (jQp N xs) G):Fn3 P w K mg base (k+1) f fd ps sp:=by
 refine Fun.ok (sp:=dn K ps.length sp) F S (fun vs H Q E h=>h.1) fun cdv A outer s H vs Q E hr hsp=> ?_
 obtain⟨t,ht,hq⟩:=hbody cdv A outer s H E hr
 obtain⟨hl,xs,G,rs,hg,hsp⟩:=hsp
 refine⟨fun D σ H1=>D.nx=(fun _ H'=>Q .non H')/\D.rt=Q/\σ=L2.start N vs/\H1=H,?_,rfl,rfl,rfl,rfl⟩
 rintro pins s1 σ1 H1 D I ⟨e1,e2,e3,e4⟩
 subst e3;subst e4
 have I3:Inv3 (cxOf CX0 P w K mg base N qual (jJo st) f cdv A outer s H1 E).nox pins (jQp N xs) G H1 s1:=⟨_,I,jY5 rs,hg⟩
 refine thn (ht pins s1 _ G H1 _ I3 (hq xs G _ hsp)) fun fl s2 z=> ?_
 cases fl with
 | next=>obtain⟨τ',G',H',e',⟨σ',I',a,b⟩,q⟩:=z;exact⟨σ',H',I',by rw[e1];exact q .non H' e' b rfl⟩
 | brk=>obtain⟨τ',G',H',e',_,q⟩:=z;exact q.elim
 | cont=>obtain⟨τ',G',H',e',_,q⟩:=z;exact q.elim
 | ret u=>obtain⟨x',τ',G',H',e',⟨σ',I',a,b⟩,⟨v,rv,ru⟩,q⟩:=z;exact⟨v,σ',H',I',ru,by rw[e2];exact q v H' e' b rv⟩
mutual
noncomputable def dep:T->Nat
 | .tup xs=>deps xs+1
 | _=>0
noncomputable def deps:List T->Nat
 | []=>0
 | x::xs=>max (dep x) (deps xs)
end
mutual
noncomputable def tree:T->Bool
 | .tup xs=>jKp xs
 | .ref _=>false
 | .scr _=>false
 | .ty _=>false
 | .non=>true
 | .bl _=>true
 | .int _=>true
 | .str _=>true
noncomputable def jKp:List T->Bool
 | []=>true
 | x::xs=>tree x&&jKp xs
end
mutual
noncomputable def eqT:T->T->Bool
 | .non,.non=>true
 | .bl a,.bl b=>a == b
 | .bl a,.int b=>(if a then 1 else 0) == b
 | .int a,.bl b=>a == (if b then 1 else 0)
 | .int a,.int b=>a == b
 | .str a,.str b=>a == b
 | .tup xs,.tup ys=>eqTs xs ys
 | _,_=>false
noncomputable def eqTs:List T->List T->Bool
 | [],[]=>true
 | x::xs,y::ys=>eqT x y&&eqTs xs ys
 | [],_::_=>false
 | _::_,[]=>false
end
mutual
theorem kYf {K:PySem.W.Frag} {H:Hp}:∀(x y:T) {a:V},tree x=true->tree y=true->Rep K H x a->Rep K H y a->eqT x y=true
 | .non,y,a,hx,hy,r,q=>by
  cases (show a= .non from r)
  cases y<;>first | rfl | (exact absurd (show false=true from hy) Bool.false_ne_true) | (cases (show V.non=_ from q)) | (obtain⟨_,_,e,_⟩:=(show ∃c vs,V.non= .ref c/\_ from q);cases e)
 | .bl b,y,a,hx,hy,r,q=>by
  cases (show a= .bl b from r)
  cases y with
  | bl c=>cases (show V.bl b=V.bl c from q);simp[eqT]
  | tup ys=>obtain⟨_,_,e,_⟩:=(show ∃c vs,V.bl b= .ref c/\_ from q);cases e
  | non=>cases (show V.bl b= .non from q)
  | int c=>cases (show V.bl b= .int c from q)
  | str c=>cases (show V.bl b= .str c from q)
  | _=>exact absurd (show false=true from hy) Bool.false_ne_true
 | .int b,y,a,hx,hy,r,q=>by
  cases (show a= .int b from r)
  cases y with
  | int c=>cases (show V.int b=V.int c from q);simp[eqT]
  | tup ys=>obtain⟨_,_,e,_⟩:=(show ∃c vs,V.int b= .ref c/\_ from q);cases e
  | non=>cases (show V.int b= .non from q)
  | bl c=>cases (show V.int b= .bl c from q)
  | str c=>cases (show V.int b= .str c from q)
  | _=>exact absurd (show false=true from hy) Bool.false_ne_true
 | .str b,y,a,hx,hy,r,q=>by
  cases (show a= .str b from r)
  cases y with
  | str c=>cases (show V.str b=V.str c from q);simp[eqT]
  | tup ys=>obtain⟨_,_,e,_⟩:=(show ∃c vs,V.str b= .ref c/\_ from q);cases e
  | non=>cases (show V.str b= .non from q)
  | bl c=>cases (show V.str b= .bl c from q)
  | int c=>cases (show V.str b= .int c from q)
  | _=>exact absurd (show false=true from hy) Bool.false_ne_true
 | .tup xs,y,a,hx,hy,r,q=>by
  obtain⟨p,vs,e,h1,h2⟩:=(show ∃p vs,a= .ref p/\H p=some (.tup vs)/\Reps K H xs vs from r)
  subst e
  cases y with
  | tup ys=>
   obtain⟨p',vs',e',h1',h2'⟩:=(show ∃p' vs',V.ref p= .ref p'/\H p'=some (.tup vs')/\Reps K H ys vs' from q)
   cases e'
   rw[h1] at h1';cases h1'
   exact jZk xs ys (show jKp xs=true from hx) (show jKp ys=true from hy) h2 h2'
  | non=>cases (show V.ref p= .non from q)
  | bl c=>cases (show V.ref p= .bl c from q)
  | int c=>cases (show V.ref p= .int c from q)
  | str c=>cases (show V.ref p= .str c from q)
  | _=>exact absurd (show false=true from hy) Bool.false_ne_true
 | .ref _,_,_,hx,_,_,_=>absurd (show false=true from hx) Bool.false_ne_true
 | .scr _,_,_,hx,_,_,_=>absurd (show false=true from hx) Bool.false_ne_true
 | .ty _,_,_,hx,_,_,_=>absurd (show false=true from hx) Bool.false_ne_true
theorem jZk {K:PySem.W.Frag} {H:Hp}:∀(xs ys:List T) {vs:List V},jKp xs=true->jKp ys=true->Reps K H xs vs->Reps K H ys vs->eqTs xs ys=true
 | [],ys,_,_,_,r,q=>by
  cases r
  cases ys with
  | nil=>rfl
  | cons y ys=>obtain⟨_,_,e,_⟩:=q;cases e
 | x::xs,ys,_,hx,hy,⟨v,ws,e,r1,r2⟩,q=>by
  subst e
  cases ys with
  | nil=>cases q
  | cons y ys=>
   obtain⟨v',ws',e',q1,q2⟩:=q
   cases e'
   have hx':tree x=true/\jKp xs=true:=by simpa[jKp] using hx
   have hy':tree y=true/\jKp ys=true:=by simpa[jKp] using hy
   show (eqT x y&&eqTs xs ys)=true
   rw[kYf x y hx'.1 hy'.1 r1 q1,jZk xs ys hx'.2 hy'.2 r2 q2]
   rfl
end
section
variable {X:Cx}
def rSub:R3:=rI0 fun i j=> .int (i-j)
def rMod:R3:=rI (fun _ j=>0<j) fun i j=> .int (i%j)
def kXi:R3:=rI CDiv fun i j=> .int (i / j)
def rPow:R3:=rI CPow fun i j=> .int (i^j.toNat)
def rLt:R3:=rI0 fun i j=> .bl (decide (i<j))
def rGt:R3:=rI0 fun i j=> .bl (decide (j<i))
def rGe:R3:=rI0 fun i j=> .bl (decide (j<=i))
def rIsN:R3:=fun x y G Q=>y= .non/\Q (.bl (qJj x)) G
def rNotN:R3:=fun x y G Q=>y= .non/\Q (.bl (!qJj x)) G
def kXj:R3:=fun x y G Q=>∃xs ys,x= .tup xs/\y= .tup ys/\xs≠[]/\xs.length+ys.length<=sizeLine/\Q (.tup (xs++ys)) G
theorem o_catT:Op3 X (binaryOp .Add) kXj:=
 Op3.of kZ1 fun H G x y a b Q hg ra rb ⟨xs,ys,ex,ey,hx,hz,q⟩=>by
  subst ex;subst ey
  obtain⟨p,vs,e1,h1,h2⟩:=(show ∃p vs,a= .ref p/\H p=some (.tup vs)/\Reps X.K H xs vs from ra)
  obtain⟨p',ws,e2,h3,h4⟩:=(show ∃p vs,b= .ref p/\H p=some (.tup vs)/\Reps X.K H ys vs from rb)
  subst e1;subst e2
  have l1:=h2.length
  have l2:=h4.length
  refine⟨p,p',vs,ws,rfl,rfl,.of h1,.of h3,fun z=>hx ?_,by omega,fun z=> ?_,fun z l hl=> ?_⟩
  ·rw[z] at l1;exact List.length_eq_zero_iff.mp l1
  ·rw[z] at l2
   have:ys=[]:=List.length_eq_zero_iff.mp l2
   subst this
   exact⟨.tup (xs++[]),G,.refl H,hg,by rw[List.append_nil];exact ra,q⟩
  ·exact⟨.tup (xs++ys),G,.upd (.none hl),hg.tupNew hl,Rep.tupNew (h2.append h4) hl,q⟩
def rAddI:R3:=rI0 fun i j=> .int (i+j)
def rAddA:R3:=fun x y G Q=>rAddI x y G Q\/rCat x y G Q\/kXj x y G Q
theorem o_addA:Op3 X (binaryOp .Add) rAddA:=o_add.or (o_cat.or o_catT)
def rMulI:R3:=rI CMul fun i j=> .int (i*j)
def rMulA:R3:=fun x y G Q=>rMulI x y G Q\/rRep x y G Q
theorem o_mulA:Op3 X (binaryOp .Mult) rMulA:=o_mul.or o_rep
def rNeg:T->Gp->VK3->Prop:=fun x G Q=>∃i,x= .int i/\Q (.int (-i)) G
theorem u_neg:Un3 X (unaryOp .USub) rNeg:=
 Un3.of un_neg fun H G x a Q hg ra ⟨i,e,q⟩=>by
  subst e;cases (show a= .int i from ra)
  exact⟨i,rfl,.int (-i),G,.refl H,hg,rfl,q⟩
theorem jJy (b:Expr) {op:CmpOp} (h:behindInMarks op b=false:=by first | exact nomark _ | with_unfolding_all rfl):behindInMarks op b=false:=h
variable {a b c:Expr} {ta tb tc:TE3} {pos:Pos}
mutual
noncomputable def td:T->PyData
 | .tup xs=> .tuple (tds xs)
 | .int i=> .int i
 | .bl b=> .bool b
 | .str x=> .str x
 | .non=> .none
 | .ref _=> .none
 | .scr _=> .none
 | .ty _=> .none
noncomputable def tds:List T->List PyData
 | []=>[]
 | x::xs=>td x::tds xs
end
def eqOk (x:T):Bool:=tree x&&(td x).canLay0&&decide ((td x).depth<=50)
def jU7 (xs:List T):Bool:=jKp xs&&PyData.canLayAll0 (tds xs)&&decide ((PyData.list (tds xs)).depth<=50)
noncomputable def eqG (G:Gp) (x y:T):Option Bool:=match x,y with
 | .ref p,.ref q=>match G p,G q with
  | some (.lst xs),some (.lst ys)=>if jU7 xs=true/\jU7 ys=true then some (eqTs xs ys) else none
  | _,_=>none
 | _,_=>if eqOk x=true/\eqOk y=true then some (eqT x y) else none
def rEqA:R3:=fun x y G Q=>∃b,eqG G x y=some b/\Q (.bl b) G
def rNeA:R3:=fun x y G Q=>∃b,eqG G x y=some b/\Q (.bl (!b)) G
noncomputable def truT (G:Gp):T->Option Bool
 | .non=>some false
 | .bl b=>some b
 | .int i=>some (i != 0)
 | .tup xs=>some (!xs.isEmpty)
 | .ref p=>match G p with
  | some (.lst xs)=>some (!xs.isEmpty)
  | some (.dck kvs)=>some (!kvs.isEmpty)
  | _=>none
 | _=>none
def rTru:T->Gp->(Bool->Gp->Prop)->Prop:=fun x G Q=>∃b,truT G x=some b/\Q b G
theorem jVa {K:PySem.W.Frag} {H:Hp} {xs:List T} {vs:List V} (r:Reps K H xs vs):xs.isEmpty=vs.isEmpty:=by
 have:=r.length
 cases xs<;>cases vs<;>simp_all
theorem jZ1:Tru3 X rTru:=
 Tru3.of tru_ok fun H G x a Q hg ra ⟨b,hb,q⟩=>by
  refine⟨b,?_,rfl,q⟩
  cases x with
  | non=>cases (show a= .non from ra);cases hb;rfl
  | bl k=>cases (show a= .bl k from ra);cases hb;rfl
  | int k=>cases (show a= .int k from ra);cases hb;rfl
  | tup xs=>
   obtain⟨p,vs,e1,h1,h2⟩:=(show ∃p vs,a= .ref p/\H p=some (.tup vs)/\Reps X.K H xs vs from ra)
   subst e1;cases hb
   exact .inr (.inl ⟨vs,.of h1,by rw[jVa h2]⟩)
  | ref p=>
   cases (show a= .ref p from ra)
   cases hG:G p with
   | none=>simp only[truT,hG] at hb;cases hb
   | some o=>
    simp only[truT,hG] at hb
    cases o with
    | lst xs=>cases hb;obtain⟨vs,h1,h2⟩:=hg.lst hG;exact .inl ⟨vs,.of h1,by rw[jVa h2]⟩
    | dct _=>cases hb
    | fdc _=>cases hb
    | ins _ _=>cases hb
    | exc _=>cases hb
    | dck kvs=>
     cases hb
     obtain⟨ws,h1,h2⟩:=hg p _ hG
     refine .inr (.inr ⟨ws,h1,?_⟩)
     cases h2<;>rfl
  | str _=>cases hb
  | scr _=>cases hb
  | ty _=>cases hb
end
section
variable {X:Cx} {pins:List (Addr×Obj)} {σ:L2.St} {H:Hp} {s:Shared} {h':Heap}
theorem jZy {t':Nat} {fp:List Addr} (I:Inv X pins σ H s) (k:∀b o,b∉fp->s.heap.get? b=some o->h'.get? b=some o) (hf:∀b∈fp,FpOk X pins H b):Inv X pins σ H {s with heap:=h',toks:=t'}:=by
 have nit:∀b u,H b=some u->b∉fp:=fun b u e z=>by rw[(hf b z).1] at e;cases e
 refine I.step (g':=s.gens) (d':=s.drawn) (ch:=fp) (fun b hb=>⟨(hf b hb).2.2.2.1,(hf b hb).2.1,(hf b hb).2.2.2.2.1,(hf b hb).2.2.2.2.2⟩) (fun b o _ _ hc e _=>k b o hc e) (fun b o _ _ hc e _=>⟨o.slots,k b o hc e⟩) (fun _ _ _ _ n=>n)
  (fun b o hc e=>⟨o,k b o hc e⟩) (fun _ _ e=>e) (fun _ _ _ e=>e) (fun b ps e=>⟨#[],by rw[e];simp⟩) (fun m hm=> ?_) (fun b u e=> ?_) I.bare
 ·obtain⟨o,es,ep,ho,r⟩:=hm
  exact⟨o,es,ep,k _ o (fun z=>(hf _ z).2.1 rfl) ho,r⟩
 ·refine (I.hok b u e).stay (fun c v hc q=>k c v ?_ q) (fun _ q=>q) fun _ _ q=>q
  rcases hc with z | z
  ·rw[z];exact nit b u e
  ·exact nit c _ z
theorem jVt {t':Nat} {fp:List Addr} {p:Addr} {vs:List V} {us:List Value} (I:Inv X pins σ H s) (k:∀b o,b∉fp->s.heap.get? b=some o->h'.get? b=some o) (hf:∀b∈fp,FpOk X pins H b)
  (hp:s.heap.objs.size<=p) (ht:TupD h' p us.toArray) (r:Vals vs us) (hz:vs.length<=sizeLine):Inv X pins σ (upd H p (.tup vs)) {s with heap:=h',toks:=t'}:=by
 have hn:H p=none:=I.hok.fresh hp
 have nit:∀b u,H b=some u->b∉fp:=fun b u e z=>by rw[(hf b z).1] at e;cases e
 have old:∀b o,s.heap.get? b=some o->b≠p:=fun b o e=>Nat.ne_of_lt (Nat.lt_of_lt_of_le (Heap.lt_size e) hp)
 have tr:∀b u,H b=some u->b≠p:=fun b u e z=>by rw[z,hn] at e;cases e
 refine I.step (g':=s.gens) (d':=s.drawn) (ch:=fp) (fun b hb=>⟨(hf b hb).2.2.2.1,(hf b hb).2.1,(hf b hb).2.2.2.2.1,(hf b hb).2.2.2.2.2⟩) (fun b o _ _ hc e _=>k b o hc e) (fun b o _ _ hc e _=>⟨o.slots,k b o hc e⟩) (fun b o _ e n=>by rw[jJs (old b o e)];exact n)
  (fun b o hc e=>⟨o,k b o hc e⟩) (fun b _ e=>by rw[jJs (tr b _ e)];exact e) (fun b _ _ e=>by rw[jJs (tr b _ e)];exact e) (fun b ps e=>⟨#[],by rw[jJs (tr b _ e),e];simp⟩) (fun m hm=> ?_) (fun b u e=> ?_) I.bare
 ·obtain⟨o,es,ep,ho,r⟩:=hm
  exact⟨o,es,ep,k _ o (fun z=>(hf _ z).2.1 rfl) ho,r⟩
 ·by_cases hb:b=p
  ·subst hb
   rw[jJ7] at e
   cases e
   exact⟨hz,us,r,ht⟩
  ·rw[jJs hb] at e
   refine (I.hok b u e).stay (fun c v hc q=>k c v ?_ q) (fun c q=>by rw[jJs (tr c _ q)];exact q) fun c _ q=>by rw[jJs (tr c _ q)];exact q
   rcases hc with z | z
   ·rw[z];exact nit b u e
   ·exact nit c _ z
end
noncomputable def Ite (K:PySem.W.Frag) (a:Addr):It:=
 ⟨fun i H=>∃xs x,SqL K H a xs/\xs[i]? =some x,fun i H x H'=>∃p y,H p=none/\x= .ref p/\(∀xs,SqL K H a xs->xs[i]? =some y)/\H'=upd H p (.tup [.int i,y]),fun i H=>∃xs,SqL K H a xs/\xs.length<=i⟩
theorem kQt {P:Program} {w:World} {K:PySem.W.Frag} {elts:List Expr} {k:Nat} {pos:Pos} (a e it:Addr) (hei:e≠it):
  Turn P w K (.Tuple elts k pos) (Ite K a) [e,it] e (fun i h=>(∃old,IsEnum h e it i old)/\h.IsListIter it a i) where
 mem:=by simp
 obj:=fun i h ⟨⟨old,h1⟩,h2⟩ b hb=>by
  have hb':b=e\/b=it:=by simpa using hb
  rcases hb' with z | z
  ·subst z;exact⟨_,h1,fun v z=>nomatch (show Data.fields _=Data.cell v from z)⟩
  ·subst z
   obtain⟨o,e2,c,d⟩:=h2
   exact⟨o,e2,fun v z=>by rw[d] at z;cases z⟩
 keep:=fun i h h' ⟨⟨old,h1⟩,h2⟩ kp=>⟨⟨old,kp e (by simp) _ h1⟩,h2.at fun o q=>kp it (by simp) o q⟩
 item:=by
  rintro X hP hw hK hc i pins s σ H E I hf ⟨⟨old,he⟩,hit⟩ hg
  subst hP hw hK
  obtain⟨xs,x,hq,hx⟩:=hg
  obtain⟨its,rv,p,hz⟩:=I.list hq
  obtain⟨u,hu,ru⟩:=rv.get hx
  refine wpAny_pyNext_enum_item he hit p.isList (x:=u) (by simpa using hu) hei fun h1 ho hit1 hT hsz hk=> ?_
  refine⟨_,rfl,wpAny_letOwnedTupleGo_enum ho fun h2 he2 hs2=> ?_⟩
  have hel:e<s.heap.objs.size:=Heap.lt_size he
  have hp2:∀b o,b∉[e,it]->s.heap.get? b=some o->h2.get? b=some o:=fun b o hb q=>by
   have hb1:b≠e:=fun z=>hb (by simp[z])
   have hb2:b≠it:=fun z=>hb (by simp[z])
   exact (hs2.2 b hb1).trans (hk b o hb1 hb2 q)
  have hT2:h2.get? s.heap.objs.size=some {cls:= .type "tuple",data:= .seq #[.int i s.toks,u]}:=(hs2.2 _ (Nat.ne_of_gt hel)).trans hT
  have I2:=jVt (t':=s.toks+1) (h':=h2) (p:=s.heap.objs.size) (vs:=[.int i,x]) (us:=[.int i s.toks,u]) I hp2 hf (Nat.le_refl _) ⟨_,hT2,rfl,_,rfl,rfl⟩ (.cons ⟨_,rfl⟩ (.cons ru .nil)) (by show 2<=sizeLine;decide)
  refine⟨.ref s.heap.objs.size,_,I2,rfl,⟨_,x,I.hok.fresh (Nat.le_refl _),rfl,fun ys hy=>by rw[I.list_inj hy hq];exact hx,rfl⟩,⟨⟨u,by simpa using he2⟩,hit1.at fun o q=>(hs2.2 it hei.symm).trans q⟩,fun b hb=> ?_⟩
  have hbs:∃o,s.heap.get? b=some o:=by
   have hb':b=e\/b=it:=by simpa using hb
   rcases hb' with z | z
   ·subst z;exact⟨_,he⟩
   ·subst z;obtain⟨o,q,_⟩:=hit;exact⟨o,q⟩
  obtain⟨o,q⟩:=hbs
  rw[jJs (Nat.ne_of_lt (Heap.lt_size q))]
  exact (hf b hb).1
 done:=by
  rintro X hP hw hK hc i pins s σ H E I hf ⟨⟨old,he⟩,hit⟩ hg
  subst hP hw hK
  obtain⟨xs,hq,hx⟩:=hg
  obtain⟨its,rv,p,hz⟩:=I.list hq
  have hl:=rv.length
  exact wpAny_pyNext_enum_end (I.ok.hd hc) he hit p.isList (by simp;omega) fun h1 hx1=>⟨rfl,jZy (t':=s.toks) I (fun b o hb q=>hx1 b o (fun z=>hb (by simp[z])) q) hf⟩
 self:=fun _ _ _ _ _ ⟨⟨old,he⟩,_⟩ h=>wpAny_pyIter_enum he h
def numT (xs:List T):List T:=(List.range xs.length).map fun (i:Nat)=>T.tup [.int i,xs.getD i .non]
theorem jQ8 {xs:List T} {i:Nat} {x:T} (h:xs[i]? =some x):(numT xs)[i]? =some (.tup [.int i,x]):=by
 have hi:i<xs.length:=by
  rcases Nat.lt_or_ge i xs.length with z | z
  ·exact z
  ·rw[List.getElem?_eq_none z] at h;cases h
 have hx:xs[i]=x:=(List.getElem?_eq_some_iff.mp h).2
 simp[numT,hi,List.getD,hx]
theorem jJ0 {xs:List T}:(numT xs).length=xs.length:=by simp[numT]
def jK0 (G:Gp):T->Option (List T)
 | .ref p=>asL (G p)
 | .scr xs=>some xs
 | _=>none
theorem jK9 {K:PySem.W.Frag} {H:Hp} {G:Gp} {x:T} {a:V} {xs:List T} (hg:GRel K H G) (r:Rep K H x a) (h:jK0 G x=some xs):∃p vs,a= .ref p/\SqL K H p vs/\Reps K H xs vs:=by
 cases x with
 | scr ys=>cases h;obtain⟨p,vs,e,h1,h2⟩:=(show ∃p vs,a= .ref p/\FrL K H p vs/\Reps K H xs vs from r);exact⟨p,vs,e,h1.sq,h2⟩
 | ref p=>
  obtain⟨vs,h1,h2⟩:=hg.lst (jUv h)
  exact⟨p,vs,r,.of h1,h2⟩
 | tup _=>cases h
 | non=>cases h
 | bl _=>cases h
 | int _=>cases h
 | str _=>cases h
 | ty _=>cases h
def kJs (ta:TA3):TI3:=fun τ G R=>ta τ G fun vs G1=>∃x xs,vs=[x]/\jK0 G1 x=some xs/\R (numT xs) (fun G'=>jK0 G' x=some xs) G1
theorem kU0 {X:Cx} {elts:List Expr} {k:Nat} {tpos pos p:Pos} {a:Expr} {ta:TA3} (hg:Gl X "enumerate") (hm:X.mg "enumerate"=none) (hv:bootBuiltins "enumerate"=some (.type "enumerate")) (ha:PA3 X [a] ta) (hs:starEach [a] X.env=[(false,eval a X.env)]:=by rfl):
  PI3 X (.Tuple elts k tpos) (.Call (.Name "enumerate" p) [a] [] pos) (kJs ta):=by
 intro pins s τ G H R I h
 obtain⟨σ0,I0,hs0,hg0⟩:=id I
 refine Call_ (jK1 I0 hg hm hv (PyProof.Rows.callWith_type1 (thn (ha pos pins s τ G H _ I h) fun us s1 w_=>w_.el fun xs' G1 H1 e1 i_ r_ q1=>i_.el fun σ I1 hs1 hg1=>r_.el fun as ras rvs=> ?_) hs rfl))
 obtain⟨x,xs,e,hx,q⟩:=q1
 subst e
 obtain⟨v,rfl,rv⟩:=jUq ras
 obtain⟨u,rfl,ru⟩:=rvs.one
 obtain⟨pa,vs,rfl,hq,r⟩:=jK9 hg1 rv hx
 cases ru
 obtain⟨its,rvv,pl,hz⟩:=I1.list hq
 refine call_enumerate_list pl.isList fun h1 he hit hsz hk=> ?_
 have I2:Inv X pins σ H1 {s1 with heap:=h1}:=I1.kept (t':=s1.toks) hk
 refine wpAny_pyIter_enum (Q:=PIE3 X pins τ H (.Tuple elts k tpos) R) he ?_
 have fr:∀b∈[s1.heap.objs.size+1,s1.heap.objs.size],FpOk X pins H1 b:=fun b hb=>by
  have hb':b=s1.heap.objs.size+1\/b=s1.heap.objs.size:=by simpa using hb
  have hle:s1.heap.objs.size<=b:=by omega
  exact I1.fpOk hle (I1.hok.fresh hle)
 refine⟨s1.heap.objs.size+1,[s1.heap.objs.size+1,s1.heap.objs.size],_,_,numT xs,fun G'=>jK0 G' x=some xs,G1,H1,rfl,e1,⟨σ,I2,hs1,hg1⟩,kQt pa _ _ (Nat.succ_ne_self _),⟨⟨.none,he⟩,hit⟩,fr,?_,q⟩
 intro i H2 G2 e2 g2 st
 obtain⟨pb,ws,eb,h1,h2⟩:=jK9 g2 (Rep.mono e2 _ rv) st
 cases eb
 have hlen:=h2.length
 refine⟨fun hi=> ?_,fun hi=>⟨ws,h1,by rw[jJ0] at hi;omega⟩,fun hi y H' ⟨pp,z,hn,ey,hy,eH⟩=> ?_⟩
 ·rw[jJ0] at hi
  exact⟨ws,ws[i]'(by omega),h1,by simp[hlen▸hi]⟩
 ·subst ey;subst eH
  obtain⟨t,ht,rt⟩:=h2.get' (hy ws h1)
  exact⟨.upd (.none hn),g2.tupNew hn,_,jQ8 ht,Rep.tupNew ⟨_,_,rfl,rfl,_,_,rfl,rt,rfl⟩ hn⟩
noncomputable def clGo (env:Env):List (Str×NameKind)->List (Str×Addr)->Option (List (Str×Addr))
 | [],cs=>some cs
 | (n,k)::r,cs=>if (k == .free)=true then (match env.cells.lookup n with | some c=>clGo env r ((n,c)::cs) | none=>none) else clGo env r cs
theorem jX3 {scope:Scope} {env:Env} {cl:List (Str×Addr)} (h:clGo env scope.names []=some cl):closureFor scope env=pure cl:=by
 unfold closureFor
 have go:∀(names:List (Str×NameKind)) (cs:List (Str×Addr)),clGo env names cs=some cl->
   (forIn names cs fun (x:Str×NameKind) (r:List (Str×Addr))=>(match x with | (nm,kd)=>if (kd == .free)=true then cellOf env nm >>= fun a=>pure (ForInStep.yield ((nm,a)::r)) else pure (ForInStep.yield r):Sem (ForInStep (List (Str×Addr)))))=pure cl:=by
  intro names
  induction names with
  | nil=>intro cs e;cases e;rfl
  | cons x r ih=>
   obtain⟨n,k⟩:=x
   intro cs e
   unfold clGo at e
   rw[List.forIn_cons]
   by_cases hk:(k == NameKind.free)=true
   ·rw[if_pos hk] at e
    cases hc:env.cells.lookup n with
    | none=>rw[hc] at e;cases e
    | some c=>
     rw[hc] at e
     have hco:cellOf env n=pure c:=by unfold cellOf;rw[hc]
     simp only[hk,if_true,hco,pure_bind]
     exact ih _ e
   ·rw[if_neg hk] at e
    simp only[hk,pure_bind,if_false,Bool.false_eq_true]
    exact ih _ e
 have:=go scope.names [] h
 simpa using this
theorem jVq {env:Env} {cl:List (Str×Addr)}:∀ {names:List (Str×NameKind)} {cs:List (Str×Addr)},clGo env names cs=some cl->(∀n c,cs.lookup n=some c->env.cells.lookup n=some c)->∀n c,cl.lookup n=some c->env.cells.lookup n=some c
 | [],cs,e,h=>by cases e;exact h
 | (n,k)::r,cs,e,h=>by
  unfold clGo at e
  by_cases hk:(k == NameKind.free)=true
  ·rw[if_pos hk] at e
   cases hc:env.cells.lookup n with
   | none=>rw[hc] at e;cases e
   | some c=>
    rw[hc] at e
    refine jVq e fun m d q=> ?_
    rw[List.lookup_cons] at q
    by_cases hm:(m == n)=true
    ·rw[hm] at q;cases q;rw[eq_of_beq hm];exact hc
    ·simp only[hm] at q;exact h m d q
  ·rw[if_neg hk] at e
   exact jVq e h
theorem jXh {env:Env} {cl:List (Str×Addr)} {m:Str}:∀ {names:List (Str×NameKind)} {cs:List (Str×Addr)},clGo env names cs=some cl->(∃c,cs.lookup m=some c)->∃c,cl.lookup m=some c
 | [],cs,e,h=>by cases e;exact h
 | (n,k)::r,cs,e,h=>by
  unfold clGo at e
  by_cases hk:(k == NameKind.free)=true
  ·rw[if_pos hk] at e
   cases hc:env.cells.lookup n with
   | none=>rw[hc] at e;cases e
   | some c=>
    rw[hc] at e
    refine jXh e ?_
    rw[List.lookup_cons]
    by_cases hm:(m == n)=true
    ·rw[hm];exact⟨_,rfl⟩
    ·simp only[hm];exact h
  ·rw[if_neg hk] at e
   exact jXh e h
theorem jVr {env:Env} {cl:List (Str×Addr)} {m:Str}:∀ {names:List (Str×NameKind)} {cs:List (Str×Addr)},clGo env names cs=some cl->names.lookup m=some .free->∃c,cl.lookup m=some c
 | [],cs,e,h=>by simp at h
 | (n,k)::r,cs,e,h=>by
  unfold clGo at e
  rw[List.lookup_cons] at h
  by_cases hm:(m == n)=true
  ·rw[hm] at h
   cases h
   rw[if_pos (show (NameKind.free == NameKind.free)=true from rfl)] at e
   cases hc:env.cells.lookup n with
   | none=>rw[hc] at e;cases e
   | some c=>
    rw[hc] at e
    refine jXh e ?_
    rw[List.lookup_cons,hm];exact⟨_,rfl⟩
  ·simp only[hm] at h
   by_cases hk:(k == NameKind.free)=true
   ·rw[if_pos hk] at e
    cases hc:env.cells.lookup n with
    | none=>rw[hc] at e;cases e
    | some c=>rw[hc] at e;exact jVr e h
   ·rw[if_neg hk] at e
    exact jVr e h
theorem jK7 {env:Env} {x:Str}:∀ {names:List (Str×NameKind)},(∀y∈names,y.2≠ .cell)->
  ((names.map fun (n,k)=>if (k == NameKind.free&&env.scope.kind == .function&&env.kindOf n == some .cell) then (n,NameKind.cell) else (n,k)).lookup x=some .cell\/
    (names.map fun (n,k)=>if (k == NameKind.free&&env.scope.kind == .function&&env.kindOf n == some .cell) then (n,NameKind.cell) else (n,k)).lookup x=some .free)->names.lookup x=some .free
 | [],_,h=>by simp at h
 | (n,k)::r,hc,h=>by
  have ih:= @jK7 env x r (fun y hy=>hc y (List.mem_cons_of_mem _ hy))
  have hk:=hc (n,k) List.mem_cons_self
  rw[List.map_cons] at h
  rw[List.lookup_cons]
  by_cases hx:(x == n)=true
  ·rw[hx]
   by_cases hf:(k == NameKind.free&&env.scope.kind == .function&&env.kindOf n == some .cell)=true
   ·have:(k == NameKind.free)=true:=by
     rw[Bool.and_eq_true,Bool.and_eq_true] at hf;exact hf.1.1
    rw[eq_of_beq this]
   ·simp only[hf,if_false,Bool.false_eq_true,List.lookup_cons,hx] at h
    rcases h with h | h
    ·cases h;exact absurd rfl hk
    ·cases h;rfl
  ·simp only[hx]
   refine ih ?_
   by_cases hf:(k == NameKind.free&&env.scope.kind == .function&&env.kindOf n == some .cell)=true
   ·simpa only[hf,if_true,List.lookup_cons,hx] using h
   ·simpa only[hf,if_false,Bool.false_eq_true,List.lookup_cons,hx] using h
theorem jQj {env:Env} {x:Str}:∀ {names:List (Str×NameKind)},
  (names.map fun (n,k)=>if (k == NameKind.free&&env.scope.kind == .function&&env.kindOf n == some .cell) then (n,NameKind.cell) else (n,k)).lookup x=some .local->names.lookup x=some .local
 | [],h=>by simp at h
 | (n,k)::r,h=>by
  have ih:= @jQj env x r
  rw[List.map_cons] at h
  rw[List.lookup_cons]
  by_cases hx:(x == n)=true
  ·rw[hx]
   by_cases hf:(k == NameKind.free&&env.scope.kind == .function&&env.kindOf n == some .cell)=true
   ·simp only[hf,if_true,List.lookup_cons,hx] at h;cases h
   ·simp only[hf,if_false,Bool.false_eq_true,List.lookup_cons,hx] at h;exact h
  ·simp only[hx]
   refine ih ?_
   by_cases hf:(k == NameKind.free&&env.scope.kind == .function&&env.kindOf n == some .cell)=true
   ·simpa only[hf,if_true,List.lookup_cons,hx] using h
   ·simpa only[hf,if_false,Bool.false_eq_true,List.lookup_cons,hx] using h
noncomputable def jQh (X:Cx) (scope:Scope) (cl:List (Str×Addr)) (C:Addr) (fp:List Addr) (s:Shared) (H:Hp):Cx:=
 {X with env:=compEnvC scope cl C X.env,s₀:=s,H₀:=H,outer:=X.stack,stack:=X.stack,ex:=fp,fn:=fun _=>false,pn:=[],xe:=fun _ _=>False}
structure CmpOk (X:Cx) (scope:Scope) (cl:List (Str×Addr)) (mask:List Bool):Prop where
 cl:clGo X.env scope.names []=some cl
 kind:scope.kind= .function
 nocell:(scope.names.all fun y=>y.2 != .cell)=true
 names:(scope.names.all fun y=>y.2 != .local||scope.names.lookup y.1 == some .local)=true
 vis:(scope.names.all fun y=>y.2 != .free||X.env.kindOf y.1 == some .cell||X.env.kindOf y.1 == some .free)=true
 len:mask.length=X.N.length
 mask:((X.N.zip mask).all fun p=>p.2||scope.names.lookup p.1 != some .local)=true
def msk {α:Type} (mask:List Bool) (τ:List (Option α)):List (Option α):=List.zipWith (fun b o=>if b=true then none else o) mask τ
theorem kJk {α:Type} {mask:List Bool} {τ:List (Option α)} {i:Nat} {t:α} (h:(msk mask τ)[i]? =some (some t)):mask[i]? =some false/\τ[i]? =some (some t):=by
 unfold msk at h
 rw[List.getElem?_zipWith] at h
 cases hm:mask[i]? with
 | none=>exact absurd (hm▸h) (by simp)
 | some b=>
  cases ht:τ[i]? with
  | none=>rw[hm,ht] at h;cases h
  | some o=>
   rw[hm,ht] at h
   cases b with
   | true=>simp at h
   | false=>simp at h;exact⟨rfl,by rw[h]⟩
theorem jU2 {α:Type} {mask:List Bool} {τ:List (Option α)} (h:mask.length=τ.length):(msk mask τ).length=τ.length:=by
 unfold msk;rw[List.length_zipWith,h,Nat.min_self]
theorem kUu {K:PySem.W.Frag} {H:Hp} {σ:L2.St} {τ:St3} {mask:List Bool} (h:SRel K H σ τ) (hl:mask.length=τ.length):SRel K H (msk mask σ) (msk mask τ):=by
 refine⟨by rw[jU2 hl,jU2 (hl.trans h.1.symm),h.1],fun i t q=> ?_⟩
 obtain⟨h1,h2⟩:=kJk q
 obtain⟨v,h3,h4⟩:=h.2 i t h2
 refine⟨v,?_,h4⟩
 unfold msk
 rw[List.getElem?_zipWith,h1,h3]
 simp
section
variable {X:Cx} {scope:Scope} {cl:List (Str×Addr)} {mask:List Bool}
theorem CmpOk.local (c:CmpOk X scope cl mask) {i:Nat} {x:Str} (h1:X.N[i]? =some x) (h2:mask[i]? =some false):scope.names.lookup x≠some .local:=by
 have h:=c.mask
 rw[List.all_eq_true] at h
 have hz:(X.N.zip mask)[i]? =some (x,false):=by rw[List.getElem?_zip_eq_some];exact⟨h1,h2⟩
 have:=h _ (List.mem_of_getElem? hz)
 simpa using this
theorem CmpOk.free (c:CmpOk X scope cl mask) {x:Str} (h:scope.names.lookup x=some .free):X.env.kindOf x=some .cell\/X.env.kindOf x=some .free:=by
 have hv:=c.vis
 rw[List.all_eq_true] at hv
 have:=hv (x,.free) (PySem.mem_of_lookup h)
 simpa using this
theorem CmpOk.nc (c:CmpOk X scope cl mask):∀y∈scope.names,y.2≠ .cell:=by
 have hv:=c.nocell
 rw[List.all_eq_true] at hv
 intro y hy
 simpa using hv y hy
theorem CmpOk.nm (c:CmpOk X scope cl mask):∀y∈scope.names,y.2= .local->scope.names.lookup y.1=some .local:=by
 have hv:=c.names
 rw[List.all_eq_true] at hv
 intro y hy e
 have:=hv y hy
 rw[e] at this
 simpa using this
theorem kVo (c:CmpOk X scope cl mask) {pins:List (Addr×Obj)} {σ:L2.St} {H:Hp} {s:Shared} {fp:List Addr} {h4:Heap} {tk:Nat} (I:Inv X pins σ H s) (hf:∀b∈fp,FpOk X pins H b) (ho:∀b∈fp,∃o,s.heap.get? b=some o)
  (hns:h4.Ns s.heap.objs.size fun _=>none) (hk:∀b o,s.heap.get? b=some o->h4.get? b=some o):
  Inv (jQh X scope cl s.heap.objs.size fp s H) [] (msk mask σ) H {s with heap:=h4,toks:=tk}:=by
 have sub:=jVq c.cl (by simp)
 have ok:(jQh X scope cl s.heap.objs.size fp s H).Ok:=by
  refine⟨I.ok.mod,c.kind,I.ok.glob,I.ok.blt,Nat.le_refl _,fun x y d h1 h2=>I.ok.inj x y d (sub _ _ h1) (sub _ _ h2),fun x hx=>jVr c.cl (jK7 (env:=X.env) c.nc hx),fun x d hx=>absurd (show false=true from hx) Bool.false_ne_true,I.ok.hd,I.ok.gd,I.ok.frames,.inl rfl,
   fun b hb=> ?_,I.bs,Nat.le_trans I.ok.bsz I.sz,fun b o e hb=> ?_,fun b hb hz=> ?_,I.stack,I.stkFree⟩
  ·obtain⟨o,e⟩:=ho b hb
   exact⟨Nat.ne_of_lt (Heap.lt_size e),fun x d hd=>(hf b hb).2.2.2.2.1 x d (sub _ _ hd)⟩
  ·rcases (hf b hb).2.2.2.1 with z | z
   ·exact I.ok.noex b o e z
   ·exact absurd (Nat.lt_of_lt_of_le (Heap.lt_size e) I.ok.bsz) (Nat.not_lt.mpr z)
  ·rcases List.mem_cons.mp (I.stkSub b hz) with z | z
   ·exact (hf b hb).2.1 z
   ·exact (hf b hb).2.2.1 z
 refine⟨ok,rfl,I.bare,Un.kept hk,⟨_,hns,fun i x v h1 h2 h3=> ?_⟩,fun x d hd=> ?_,I.hok.fresh (Nat.le_refl _),fun x d hd=>I.freeC x d (sub _ _ hd),fun p hp=>absurd (show p∈([]:List (Addr×Obj)) from hp) (by simp),I.hok.kept hk,?_⟩
 ·obtain⟨m1,m2⟩:=kJk h2
  have nl:=c.local h1 m1
  have fr:scope.names.lookup x=some .free:=by
   rcases h3 with z | z | z
   ·exact absurd (jQj (env:=X.env) z) nl
   ·exact jK7 (env:=X.env) c.nc (.inl z)
   ·exact jK7 (env:=X.env) c.nc (.inr z)
  have hkk:=c.free fr
  obtain⟨m,hn,hl⟩:=I.loc
  have vis:Vis X.env.scope x:=by rcases hkk with z | z;exact .inr (.inl z);exact .inr (.inr z)
  obtain⟨u,ru,lk⟩:=hl i x v h1 m2 vis
  refine⟨u,ru,?_⟩
  rcases lk with ⟨z,_⟩ | ⟨_,d,hd,cd⟩
  ·exfalso;rcases hkk with q | q<;>(rw[z] at q;cases q)
  ·obtain⟨d',hd'⟩:=jVr c.cl fr
   have:d'=d:=by have:=sub _ _ hd';rw[hd] at this;exact (Option.some.inj this).symm
   subst this
   refine .inr ⟨?_,d',hd',cd.keeps hk⟩
   rcases h3 with z | z | z
   ·exact absurd (jQj (env:=X.env) z) nl
   ·exact .inl z
   ·exact .inr z
 ·obtain⟨v,hv⟩:=I.cell x d (sub _ _ hd)
  exact⟨v,hv.keeps hk⟩
 ·exact (jU2 (c.len.trans I.len.symm)).trans I.len
theorem qJz {pins:List (Addr×Obj)} {σ σ':L2.St} {H H':Hp} {s s':Shared} {fp:List Addr} {pl:List (Addr×Obj)} {C:Addr} (I:Inv X pins σ H s) (hf:∀b∈fp,FpOk X pins H b) (hC:s.heap.objs.size<=C)
  (J:Inv (jQh X scope cl C fp s H) pl σ' H' s') {h':Heap} (hb:Heap.SameBut C s'.heap h'):Inv X pins σ H' {s' with heap:=h'}:=by
 have ne:∀b o,s.heap.get? b=some o->b≠C:=fun b o e=>Nat.ne_of_lt (Nat.lt_of_lt_of_le (Heap.lt_size e) hC)
 have u:=J.base
 have hfree:H' C=none:=J.free
 have u':Un (frs X.stack) fp H H' s.heap h':=⟨fun b o e n hb' hx=>(hb.2 b (ne b o e)).trans (u.keep b o e n hb' hx),fun b o e n hb' hx=>let ⟨sl,z⟩:=u.slot b o e n hb' hx;⟨sl,(hb.2 b (ne b o e)).trans z⟩,
  u.free,fun b o e hx=>let ⟨o',z⟩:=u.there b o e hx;⟨o',(hb.2 b (ne b o e)).trans z⟩,u.tups,u.frzs,u.tbls⟩
 have hok:HOk X.prog X.w H' h':=fun b ob e=>(J.hok b ob e).stay (fun c w' hc q=>(hb.2 c (by
  rintro rfl
  rcases hc with rfl | hc
  ·rw[hfree] at e;cases e
  ·rw[hfree] at hc;cases hc)).trans q) (fun _ q=>q) fun _ _ q=>q
 exact I.call' (s':={s' with heap:=h'}) J.os u' hok J.bare fun b hb=>⟨(hf b hb).2.2.2.1,(hf b hb).2.1,(hf b hb).2.2.2.2.1,(hf b hb).2.2.2.2.2⟩
end
abbrev kVm (ifs:List Expr) (env:Env):Sem Bool:=forIn ifs true fun c b=>if b=true then isTrue c env (eval c env) >>= fun d=>pure (ForInStep.yield d) else pure (ForInStep.yield b)
noncomputable def kYy (M:Model) (A:Around) (elt tg:Expr) (ifs:List Expr) (it acc:Value) (env:Env) (stop more:Shared->Prop):Option Value->Shared->Prop
 | none=>stop
 | some v=>fun z=>wpAny M A (letOwnedTupleGo tg it v) (fun _ z1=>wpAny M A (assign tg env v) (fun _ z2=>wpAny M A (kVm ifs env) (fun ok z3=>if ok=true then wpAny M A (eval elt env) (fun x z4=>wpAny M A (call (.builtin "list.append") [acc,x]) (fun _=>more) (fun _ _=>False) z4) (fun _ _=>False) z3 else more z3) (fun _ _=>False) z2) (fun _ _=>False) z1) (fun _ _=>False) z
theorem kVn {P:Program} {w:World} {A:Around} {R:Result->Shared->Prop} {s:Shared} {elt tg iter:Expr} {ifs:List Expr} {scope:Scope} {pos:Pos} {it acc:Value} {env:Env} (I:Nat->Shared->Prop)
  (turn:∀k z,I k z->wpAny (model P w) A (pyNext it) (kYy (model P w) A elt tg ifs it acc env (R (.ok .next)) fun z'=>∃m,m<k/\I m z') (fun _ _=>False) z) (n:Nat) (h:I n s):codeAny (model P w) A (.compLoop (.ListComp elt [⟨tg,iter,ifs,0⟩] scope pos) 0 it acc env) R s:=by
 refine codeAny_loop rfl I (fun k z hz=>(show wpAny _ A ((compTurn (.ListComp elt [⟨tg,iter,ifs,0⟩] scope pos) 0 it acc env).onRaise _) _ _ z from wpAny_noted ?_)) n h
 rw[compTurn_list]
 refine wpAny_bind (wpAny_standAt (wpAny_bind (wpAny_mono (turn k z hz) (fun r z1 h1=> ?_) fun _ _ e=>e.elim)))
 cases r with
 | none=>exact wpAny_pure h1
 | some v=>
  refine wpAny_bind (wpAny_mono h1 (fun _ z2 h2=>wpAny_bind (wpAny_mono h2 (fun _ z3 h3=>wpAny_bind (wpAny_mono h3 (fun ok z4 h4=> ?_) fun _ _ e=>e.elim)) fun _ _ e=>e.elim)) fun _ _ e=>e.elim)
  by_cases hok:ok=true
  ·subst hok
   exact wpAny_bind (wpAny_bind (wpAny_mono h4 (fun x z5 h5=>wpAny_bind (wpAny_mono h5 (fun _ z6 h6=>wpAny_pure (wpAny_pure ⟨rfl,h6⟩)) fun _ _ e=>e.elim)) fun _ _ e=>e.elim))
  ·obtain rfl:ok=false:=by simpa using hok
   exact wpAny_pure ⟨rfl,h4⟩
noncomputable def PIf3 (X:Cx) (ifs:List Expr) (t:TT3):Prop:=∀(pins:List (Addr×Obj)) (s:Shared) (τ:St3) (G:Gp) (H:Hp) (Q:Bool->Gp->Prop),Inv3 X pins τ G H s->t τ G Q->
 wpAny (model X.prog X.w) X.A (forIn ifs true fun c r=>if r=true then do let ok <-isTrue c X.env (eval c X.env);pure (ForInStep.yield ok) else pure (ForInStep.yield r)) (TP3 X pins τ H Q) X.xe s
def jK2:TT3:=fun _ G Q=>Q true G
theorem jQa {X:Cx}:PIf3 X [] jK2:=fun _ _ _ G H _ I q=>wpAny_tests_nil ⟨G,H,.refl H,I,q⟩
theorem kY8 {X:Cx} {c:Expr} {t:TT3} (h:PT3 X c t):PIf3 X [c] t:=fun pins s τ G H Q I q=>wpAny_tests_one (h pins s τ G H Q I q)
def kQm (mask:List Bool) (g:TG3):Prop:=∀v τ G Q,g v τ G Q->g v τ G fun τ2 G2=>Q τ2 G2/\τ2.length=τ.length/\∀i:Nat,mask[i]? ≠some true->τ2[i]? =τ[i]?
def kKv (mask:List Bool) (g:TGs3):Prop:=∀v τ G Q,g v τ G Q->g v τ G fun τ2 G2=>Q τ2 G2/\τ2.length=τ.length/\∀i:Nat,mask[i]? ≠some true->τ2[i]? =τ[i]?
theorem jJ4 {mask:List Bool} {i:Nat} (h:mask[i]? =some true:=by rfl):kQm mask (jJg i):=fun v τ G Q q=>
 ⟨q,List.length_set ..,fun j hj=>List.getElem?_set_ne (by rintro rfl;exact hj h)⟩
theorem kZb {mask:List Bool}:kKv mask gNil:=fun v τ G Q ⟨e,q⟩=>⟨e,q,rfl,fun _ _=>rfl⟩
theorem jYq {mask:List Bool} {t:TG3} {u:TGs3} (h1:kQm mask t) (mono:∀v τ G Q Q',(∀a b,Q a b->Q' a b)->t v τ G Q->t v τ G Q') (h2:kKv mask u) (mono2:∀v τ G Q Q',(∀a b,Q a b->Q' a b)->u v τ G Q->u v τ G Q'):kKv mask (jJx t u):=fun vs τ G Q ⟨v,r,e,q⟩=>by
 refine⟨v,r,e,mono _ _ _ _ _ (fun τ2 G2 ⟨z,l1,k1⟩=> ?_) (h1 _ _ _ _ q)⟩
 exact mono2 _ _ _ _ _ (fun τ3 G3 ⟨z3,l3,k3⟩=>⟨z3,l3.trans l1,fun i hi=>(k3 i hi).trans (k1 i hi)⟩) (h2 _ _ _ _ z)
theorem jU5 {i:Nat}:∀v τ G (Q Q':St3->Gp->Prop),(∀a b,Q a b->Q' a b)->jJg i v τ G Q->jJg i v τ G Q':=fun _ _ _ _ _ h q=>h _ _ q
theorem kKj:∀v τ G (Q Q':St3->Gp->Prop),(∀a b,Q a b->Q' a b)->gNil v τ G Q->gNil v τ G Q':=fun _ _ _ _ _ h q=>⟨q.1,h _ _ q.2⟩
theorem kU4 {t:TG3} {u:TGs3} (m1:∀v τ G (Q Q':St3->Gp->Prop),(∀a b,Q a b->Q' a b)->t v τ G Q->t v τ G Q') (m2:∀v τ G (Q Q':St3->Gp->Prop),(∀a b,Q a b->Q' a b)->u v τ G Q->u v τ G Q'):
  ∀v τ G (Q Q':St3->Gp->Prop),(∀a b,Q a b->Q' a b)->jJx t u v τ G Q->jJx t u v τ G Q':=fun _ _ _ _ _ h ⟨v,r,e,q⟩=>⟨v,r,e,m1 _ _ _ _ _ (fun _ _ z=>m2 _ _ _ _ _ h z) q⟩
theorem kZa {mask:List Bool} {n:Nat} {u:TGs3} (h:kKv mask u):kQm mask (gTup n u):=fun v τ G Q ⟨xs,e,l,q⟩=>⟨xs,e,l,h _ _ _ _ q⟩
theorem kXy {mask:List Bool} {τ τ2:St3} (hl:mask.length=τ.length) (l:τ2.length=(msk mask τ).length) (h:∀i:Nat,mask[i]? ≠some true->τ2[i]? =(msk mask τ)[i]?):msk mask τ2=msk mask τ:=by
 have ll:=jU2 hl
 apply List.ext_getElem?
 intro i
 unfold msk at h ⊢
 rw[List.getElem?_zipWith,List.getElem?_zipWith]
 cases hm:mask[i]? with
 | none=>rfl
 | some b=>
  cases b with
  | true=>
   have h1:i<mask.length:=by
    rcases Nat.lt_or_ge i mask.length with z | z
    ·exact z
    ·rw[List.getElem?_eq_none z] at hm;cases hm
   have h2:i<τ2.length:=by omega
   have h3:i<τ.length:=by omega
   rw[List.getElem?_eq_getElem h2,List.getElem?_eq_getElem h3]
   simp
  | false=>
   have:=h i (by rw[hm];simp)
   rw[List.getElem?_zipWith,hm] at this
   rw[this]
   cases τ[i]? with
   | none=>rfl
   | some o=>simp
noncomputable def jZ3 (mask:List Bool) (g:TG3) (tif:TT3) (te:TE3) (τ:St3) (xs:List T) (stay:Gp->Prop) (G:Gp) (Q:VK3):Prop:=
 ∀D,G D=none->∃P:Nat->List T->Gp->Prop,P 0 [] (gup G D (.lst []))/\(∀i acc G,i<=xs.length->P i acc G->stay G/\G D=some (.lst acc))/\
  (∀i x acc G,xs[i]? =some x->P i acc G->g x (msk mask τ) G fun τ2 G2=>tif τ2 G2 fun b G3=>if b=true then te τ2 G3 fun y G4=>G4 D=some (.lst acc)/\acc.length<sizeLine/\P (i+1) (acc++[y]) (gup G4 D (.lst (acc++[y]))) else P (i+1) acc G3)/\
  ∀acc G,P xs.length acc G->Q (.ref D) G
def jKq (mask:List Bool) (wi:TI3) (g:TG3) (tif:TT3) (te:TE3):TE3:=fun τ G Q=>wi τ G fun xs stay G1=>jZ3 mask g tif te τ xs stay G1 Q
section
variable {X:Cx} {scope:Scope} {cl:List (Str×Addr)} {mask:List Bool} {elt iter tg:Expr} {ifs:List Expr} {pos:Pos} {wi:TI3} {g:TG3} {tif:TT3} {te:TE3}
theorem jX2 (hc:X.calm=true) (ok:CmpOk X scope cl mask)
  (hgk:kQm mask g) (hg:∀C fp s H,PG3 (jQh X scope cl C fp s H) tg g) (hif:∀C fp s H,PIf3 (jQh X scope cl C fp s H) ifs tif) (he:∀C fp s H,PE3 (jQh X scope cl C fp s H) elt te)
  {pins:List (Addr×Obj)} {τ:St3} {H:Hp} {Q:VK3} {itv:Value} {s2:Shared} {E:Value->Shared->Prop} {RR:Value->Addr->Result->Shared->Prop}
  (h2:PIE3 X pins τ H tg (fun xs stay G=>jZ3 mask g tif te τ xs stay G Q) itv s2)
  (hRR:∀D C s' m,s'.heap.Ns C m->(∃G1 H1,Ext H H1/\H1 C=none/\Q (.ref D) G1/\∀h',Heap.SameBut C s'.heap h'->Inv3 X pins τ G1 H1 {s' with heap:=h'})->(∃oC,s'.heap.get? C=some oC/\C≠X.env.locals/\C∉X.fs/\∀v,oC.data≠ .cell v)->(∀x c,X.env.cells.lookup x=some c->c≠C)->(∀p∈X.pn++pins,p.1≠C)->X.s₀.heap.objs.size<=C->RR (.ref D) C (.ok .next) s'):
  wpAny (model X.prog X.w) X.A (newList []) (fun acc s₃=>wpAny (model X.prog X.w) X.A (newFunctionEnv scope X.env.globals cl [] X.env.qual none .none (some X.env)) (fun cenv s₄=>
   codeAny (model X.prog X.w) X.A (.compStart (.ListComp elt [⟨tg,iter,ifs,0⟩] scope pos) 0 itv acc {cenv with scope:=relabel scope X.env}) (RR acc cenv.locals) s₄) E s₃) E s2:=by
 obtain⟨it,fp,tn,J,xs,stay,G2,H2,e,eH,⟨σ,I2,hs2,hg2⟩,T0,st2,f2,IT,hq⟩:=h2
 subst e
 refine wpAny_newObj_type (wpAny_newFunctionEnv ok.nc (by intro y hy;simp at hy) (fun h4 hns hsb=> ?_) ok.kind)
 dsimp only at hns hsb ⊢
 have hD:H2 s2.heap.objs.size=none:=I2.hok.fresh (Nat.le_refl _)
 generalize hs3:({s2 with heap:=s2.heap.push {cls:= .type "list",dict:=none,data:= .seq ([]:List Value).toArray} }:Shared)=s3
 have eh3:s2.heap.push {cls:= .type "list",dict:=none,data:= .seq ([]:List Value).toArray}=s3.heap:=by rw[<-hs3]
 have I3:Inv X pins σ (upd H2 s2.heap.objs.size (.lst [])) s3:=by
  rw[<-hs3]
  exact I2.laid (t':=s2.toks) (fun b u e=>Heap.get?_push_of_some _ e) (Nat.le_refl _) ⟨Nat.zero_le _,[],0,.nil,Heap.get?_push_size _ rfl⟩
 rw[eh3] at hns hsb ⊢
 generalize hDd:s2.heap.objs.size=D at *
 have e3:Ext H2 (upd H2 D (.lst [])):= .upd (.none hD)
 have hg3:GRel X.K (upd H2 D (.lst [])) (gup G2 D (.lst [])):=hg2.lstNew (show Reps X.K H2 [] [] from rfl) (.none hD)
 have obj2:∀b∈fp,∃o,s2.heap.get? b=some o:=fun b hb=>let ⟨o,e,_⟩:=T0.obj 0 _ st2 b hb;⟨o,e⟩
 have fD:∀b∈fp,b≠D:=fun b hb=>by obtain⟨o,e⟩:=obj2 b hb;rw[<-hDd];exact Nat.ne_of_lt (Heap.lt_size e)
 have f3:∀b∈fp,FpOk X pins (upd H2 D (.lst [])) b:=fun b hb=>⟨by rw[jJs (fD b hb)];exact (f2 b hb).1,(f2 b hb).2⟩
 have k3:∀b o,s2.heap.get? b=some o->s3.heap.get? b=some o:=fun b o e=>by rw[<-eh3];exact Heap.get?_push_of_some _ e
 have obj3:∀b∈fp,∃o,s3.heap.get? b=some o:=fun b hb=>let ⟨o,e⟩:=obj2 b hb;⟨o,k3 b o e⟩
 have k4:∀b o,s3.heap.get? b=some o->h4.get? b=some o:=fun b o e=>hsb.extBut b o (Nat.ne_of_lt (Heap.lt_size e)) (Heap.get?_push_of_some _ e)
 have Ic:Inv (jQh X scope cl s3.heap.objs.size fp s3 (upd H2 D (.lst []))) [] (msk mask σ) (upd H2 D (.lst [])) {s3 with heap:=h4,toks:=s3.toks+([]:List (Str×Value)).length}:=kVo ok I3 f3 obj3 hns k4
 have st4:tn 0 h4:=T0.keep _ _ _ st2 fun b _ o e=>k4 b o (k3 b o e)
 have hl3:mask.length=τ.length:=ok.len.trans (I3.len.symm.trans hs2.1)
 obtain⟨P,p0,hst,turn,fin⟩:=hq D (hg2.fresh hD)
 have fpc:∀ {H':Hp} {pl:List (Addr×Obj)},(∀b∈fp,H' b=none)->(∀p∈pl,p.1∉fp)->∀b∈fp,FpOk (jQh X scope cl s3.heap.objs.size fp s3 (upd H2 D (.lst []))) pl H' b:=fun {H' pl} hn hp b hb=>by
  obtain⟨o,e⟩:=obj3 b hb
  refine⟨hn b hb,Nat.ne_of_lt (Heap.lt_size e),?_,.inl hb,fun x d hd=>(f3 b hb).2.2.2.2.1 x d (jVq ok.cl (by simp) _ _ hd),fun p hpp z=> ?_⟩
  ·intro z
   rcases List.mem_cons.mp (I3.stkSub b z) with q | q
   ·exact (f3 b hb).2.1 q
   ·exact (f3 b hb).2.2.1 q
  ·have hpp':p∈pl:=by simpa[jQh] using hpp
   exact hp p hpp' (z▸hb)
 have loop:∀s4:Shared,s4={s3 with heap:=h4,toks:=s3.toks+([]:List (Str×Value)).length}->
   codeAny (model X.prog X.w) X.A (.compLoop (.ListComp elt [⟨tg,iter,ifs,0⟩] scope pos) 0 (.ref it) (.ref D) (compEnvC scope cl s3.heap.objs.size X.env)) (RR (.ref D) s3.heap.objs.size) s4:=by
  rintro s4 rfl
  refine kVn (fun n s'=>∃i acc G' H',n=xs.length-i/\i<=xs.length/\Ext H2 H'/\Inv3 (jQh X scope cl s3.heap.objs.size fp s3 (upd H2 D (.lst []))) [] (msk mask τ) G' H' s'/\tn i s'.heap/\(∀b∈fp,H' b=none)/\P i acc G') ?_ xs.length
   ⟨0,[],_,_,rfl,Nat.zero_le _,e3,⟨_,Ic,kUu (hs2.mono e3) hl3,hg3⟩,st4,fun b hb=>(f3 b hb).1,p0⟩
  rintro n s5 ⟨i,acc,G5,H5,en,hi5,e5,⟨σ5,I5,hs5,hg5⟩,st5,fr5,p5⟩
  obtain⟨hstay,hacc⟩:=hst i acc G5 hi5 p5
  obtain⟨go,stop,yl⟩:=IT i H5 G5 e5 hg5 hstay
  by_cases hlt:i<xs.length
  ·refine thn (T0.item (jQh X scope cl s3.heap.objs.size fp s3 (upd H2 D (.lst []))) rfl rfl rfl hc i [] s5 σ5 H5 (fun _ _=>False) I5 (fpc fr5 (by simp)) st5 (go hlt)) fun r s6 ⟨u,hr,h6⟩=> ?_
   subst hr
   refine thn h6 fun _ s7 ⟨x,H7,I7,r7,y7,st7,fr7⟩=> ?_
   obtain⟨e7,g7,t,ht,rt⟩:=yl hlt x H7 y7
   have I7':=I7.pinned (fpc fr7 (by simp)) (T0.obj _ _ st7)
   refine thn (hg _ _ _ _ ([]++jUd fp s7.heap) s7 (msk mask τ) G5 H7 t u _ ⟨σ5,I7',hs5.mono e7,g7⟩ ⟨x,rt,r7⟩ (hgk _ _ _ _ (turn i t acc G5 ht p5))) fun _ s8 ⟨τ8,G8,H8,e8,I8,q8,ql8,qk8⟩=> ?_
   refine thn (hif _ _ _ _ ([]++jUd fp s7.heap) s8 τ8 G8 H8 _ I8 q8) fun b s9 ⟨G9,H9,e9,I9,q9⟩=> ?_
   have back:∀ {Ga:Gp} {Ha:Hp} {sa:Shared} {acc':List T},Ext H7 Ha->Inv3 (jQh X scope cl s3.heap.objs.size fp s3 (upd H2 D (.lst []))) ([]++jUd fp s7.heap) τ8 Ga Ha sa->P (i+1) acc' Ga->
     ∃m,m<n/\∃i acc G' H',m=xs.length-i/\i<=xs.length/\Ext H2 H'/\Inv3 (jQh X scope cl s3.heap.objs.size fp s3 (upd H2 D (.lst []))) [] (msk mask τ) G' H' sa/\tn i sa.heap/\(∀b∈fp,H' b=none)/\P i acc G':=by
    rintro Ga Ha sa acc' ea ⟨σa,Ia,hsa,hga⟩ pa
    have e2a:Ext H5 Ha:=e7.trans ea
    have hla:mask.length=τ8.length:=by rw[ql8,jU2 hl3];exact hl3
    have hsm:=kUu (mask:=mask) hsa hla
    rw[kXy hl3 ql8 qk8] at hsm
    refine⟨xs.length-(i+1),by omega,i+1,acc',Ga,Ha,rfl,hlt,e5.trans e2a,⟨msk mask σa,(Ia.weak (jU2 (hla.trans hsa.1.symm)) fun j v hv=>(kJk hv).2).pins_of (fun p hp=>absurd hp (by simp)),hsm,hga⟩,?_,fun b hb=> ?_,pa⟩
    ·exact T0.keep _ _ _ st7 fun b hb o e=>(Ia.pin (b,o) (List.mem_append_right _ (List.mem_append_right _ (jQ9 hb e)))).1
    ·obtain⟨o,e,d⟩:=T0.obj _ _ st7 b hb
     exact (Ia.pin (b,o) (List.mem_append_right _ (List.mem_append_right _ (jQ9 hb e)))).2.1
   cases b with
   | false=>
    rw[if_neg Bool.false_ne_true] at q9 ⊢
    exact back (e8.trans e9) I9 q9
   | true=>
    rw[if_pos rfl] at q9 ⊢
    refine thn (he _ _ _ _ ([]++jUd fp s7.heap) s9 τ8 G9 H9 _ I9 q9) fun y s10 w_=>w_.el fun ty G10 H10 e10 I10 r10 ⟨hD10,hz10,q10⟩=> ?_
    obtain⟨vy,rvy,ruy⟩:=r10
    refine thn (jKx ([]++jUd fp s7.heap) s10 τ8 G10 H10 (.ref D) [ty] (.ref D) [y] (fun _ G'=>P (i+1) (acc++[ty]) G') I10 ⟨.ref D,rfl,rfl⟩ ⟨[vy],.one rvy,.cons ruy .nil⟩ ⟨D,acc,ty,rfl,rfl,hD10,hz10,q10⟩) fun _ s11 w_=>w_.el fun _ G11 H11 e11 I11 _ q11=> ?_
    exact back (((e8.trans e9).trans e10).trans e11) I11 q11
  ·have ei:i=xs.length:=by omega
   refine thn (T0.done (jQh X scope cl s3.heap.objs.size fp s3 (upd H2 D (.lst []))) rfl rfl rfl hc i [] s5 σ5 H5 (fun _ _=>False) I5 (fpc fr5 (by simp)) st5 (stop (by omega))) fun r s6 ⟨hr,I6⟩=> ?_
   subst hr;subst ei
   obtain⟨m,hn,_⟩:=I6.loc
   obtain⟨oC,es,ep,hoC,hdC,_⟩:=id hn
   refine hRR D s3.heap.objs.size s6 m hn ⟨G5,H5,eH.trans e5,I6.free,fin acc G5 p5,fun h' hb=>⟨σ,qJz I3 f3 (Nat.le_refl _) I6 hb,hs2.mono e5,hg5⟩⟩
    ⟨oC,hoC,Nat.ne_of_gt I3.lt,I3.nofs (Nat.le_refl _),fun v z=>by rw[hdC] at z;cases z⟩ (fun x d hd=> ?_) (fun p hp=> ?_) I3.sz
   ·obtain⟨v,q⟩:=I3.cell x d hd
    exact Nat.ne_of_lt q.lt
   ·exact Nat.ne_of_lt (Heap.lt_size (I3.pin p hp).1)
 exact codeAny_compStart_list (loop _ (by rw[<-hs3])) (T0.self _ 0 _ _ _ st4 (loop _ (by rw[<-hs3])))
theorem jQr (hc:X.calm=true) (ok:CmpOk X scope cl mask) (hi:PI3 X tg iter wi) (hgk:kQm mask g) (hg:∀C fp s H,PG3 (jQh X scope cl C fp s H) tg g) (hif:∀C fp s H,PIf3 (jQh X scope cl C fp s H) ifs tif) (he:∀C fp s H,PE3 (jQh X scope cl C fp s H) elt te)
  (hs:∀x,foldedSetIterable iter X.env x=pure x:=by intro _;rfl):PE3 X (.ListComp elt [⟨tg,iter,ifs,0⟩] scope pos) (jKq mask wi g tif te):=by
 intro pins s τ G H Q I h
 rw[eval_ListComp]
 refine wpAny_comprehension_free (use:=none) rfl hs (jX3 ok.cl) ok.kind ok.nm (thn (hi pins s τ G H _ I h) fun xv s1 h1=>thn h1 fun itv s2 h2=> ?_)
 refine jX2 (RR:=fun acc C=>compPost (model X.prog X.w) X.A X.xe none (EP3 X pins τ H Q) acc C) hc ok hgk hg hif he h2 ?_
 rintro D C s' m hn ⟨G1,H1,e1,_,q1,hI⟩ _ _ _ _
 exact⟨m,hn,fun h' hb=>⟨.ref D,G1,H1,e1,hI h' hb,⟨.ref D,rfl,rfl⟩,q1⟩⟩
theorem kJ7 {i:Nat} {y:Str} {py spos:Pos} (hc:X.calm=true) (hN:X.N.Nodup) (ok:CmpOk X scope cl mask) (hi:PI3 X tg iter wi) (hgk:kQm mask g) (hg:∀C fp s H,PG3 (jQh X scope cl C fp s H) tg g) (hif:∀C fp s H,PIf3 (jQh X scope cl C fp s H) ifs tif) (he:∀C fp s H,PE3 (jQh X scope cl C fp s H) elt te)
  (hy:X.N[i]? =some y:=by rfl) (hx:X.env.scope.names.lookup y=some .local:=by rfl)
  (hsw:swapsWith (.ListComp elt [⟨tg,iter,ifs,0⟩] scope pos) (some (.Name y py)) spos.line X.env=pure true:=by rfl)
  (hs:∀x,foldedSetIterable iter X.env x=pure x:=by intro _;rfl):PS3 X (.Assign [.Name y py] (.ListComp elt [⟨tg,iter,ifs,0⟩] scope pos) spos) (tAsg (jKq mask wi g tif te) (jJg i)):=by
 intro pins s τ G H D I h
 rw[exec_Assign_Name_used _ _ _ _ hsw];refine wpAny_bind (wpAny_standAt (wpAny_bind ?_))
 show wpAny _ X.A (do let _ <-comprehension (.ListComp elt [⟨tg,iter,ifs,0⟩] scope pos) scope X.env _ (newList []) false (eval iter X.env) (some (assign (.Name y py) X.env))) _ _ s
 refine wpAny_bind (wpAny_mono (wpAny_comprehension_free (use:=some (assign (.Name y py) X.env)) (Q:=fun _ s'=>SP3 X pins H D .next s') rfl hs (jX3 ok.cl) ok.kind ok.nm
  (thn (hi pins s τ G H _ I h) fun xv s1 h1=>thn h1 fun itv s2 h2=> ?_)) (fun _ s' hq=>wpAny_pure (wpAny_pure hq)) fun _ _ e=>e)
 refine jX2 (RR:=fun acc C=>compPost (model X.prog X.w) X.A X.xe (some (assign (.Name y py) X.env)) (fun _ s'=>SP3 X pins H D .next s') acc C) hc ok hgk hg hif he h2 ?_
 rintro Dd C s' m hn ⟨G1,H1,e1,hH1C,q1,hI⟩ ⟨oC,hoC,c1,c2,c3⟩ c4 c5 c6
 show wpAny _ X.A (assign (.Name y py) X.env (.ref Dd)) _ _ _
 obtain⟨σ1,I1,hs1,hg1⟩:=hI s'.heap (.refl ..)
 have I1':Inv X (pins++[(C,oC)]) σ1 H1 s':=I1.pins_of fun p hp=>(List.mem_append.mp hp).elim (fun z=>I1.pin p (List.mem_append_right _ z)) fun z=>by
  obtain rfl:p=(C,oC):=by simpa using z
  exact⟨hoC,hH1C,c1,c2,c3⟩
 refine wpAny_assign_Name (jK3 I1' hN hy (.inl hx) (v:= .ref Dd) rfl (fun s2 I2=> ?_) (.inr hx))
 have hC2:s2.heap.get? C=some oC:=(I2.pin (C,oC) (List.mem_append_right _ (List.mem_append_right _ (by simp)))).1
 obtain⟨oC',es,ep,hoC',r⟩:=hn
 have eo:oC'=oC:=by rw[hoC] at hoC';exact (Option.some.inj hoC').symm
 subst eo
 refine⟨m,⟨oC',es,ep,hC2,r⟩,fun h' hb=>⟨_,G1,H1,e1,⟨_,?_,hs1.set i (show Rep X.K H1 (.ref Dd) (.ref Dd) from rfl),hg1⟩,q1⟩⟩
 exact I2.unpinned.turned (t':=s2.toks) (fun b o hb' e=>(hb.2 b hb').trans e) hH1C c1 (.inr c6) c4 c5
end
end L3
namespace HT
open PySem PyProof.Rows
def lexLe:(xs ys:List Int)->Bool
 | [],_=>true
 | _::_,[]=>false
 | x::xs,y::ys=>if x=y then lexLe xs ys else decide (x<=y)
theorem lexLe_cons (x y:Int) (xs ys:List Int):lexLe (x::xs) (y::ys)=if x=y then lexLe xs ys else decide (x<=y):=rfl
theorem lexLe_nil (ys:List Int):lexLe [] ys=true:=by cases ys<;>rfl
theorem jXr (x:Int) (xs:List Int):lexLe (x::xs) []=false:=rfl
theorem kXf (A:Around) (s:Shared) (a:Int) (t:Tok) (c:Int) (u:Tok) (prog:Program) (w:World) (E:Value->Shared->Prop) (Q:Value->Shared->Prop) (h:Q (.bool (decide (a<=c))) s):
  wpAny (model prog w) A (richCompare .LtE (.int a t) (.int c u)) Q E s:=
 (PyProof.Rows.le_int h:wpAny (model prog w) A (compareOp .LtE (.int a t) (.int c u)) Q E s)
section
open PySem.SeqAt
open PySem.AutoSeq1 (wpAny_loadPart')
open PySem.MeetsSeq PySem.MeetsSeq2 PySem.MeetsSeq3
theorem jX7 (l b:Addr) (items items2:Array Value) (n n2:Nat) (dd dd2:Option Addr) (sl sl2:Array (Option Value)) (ns ms:List Int) (hi:IntsAre items.toList ns) (hj:IntsAre items2.toList ms):
  Meets (Builtin.«tuple.__le__» ⟨[.ref l,.ref b],[]⟩)
   (fun _ R s=>s.heap.get? l=some {cls:= .type "tuple",dict:=dd,data:= .seq items n,slots:=sl}/\s.heap.get? b=some {cls:= .type "tuple",dict:=dd2,data:= .seq items2 n2,slots:=sl2}/\
    R (.ok (.ret (.bool (lexLe ns ms)))) s):=
 .of_wp fun prog w A R s h=>by
  obtain⟨hp,g,d,tk,os⟩:=s;obtain⟨hl,hb,h⟩:=h
  have f2:=AutoSeq1.sub_tuple_tuple
  have z1:items.size=ns.length:=by rw[<-hi.length];simp
  have z2:items2.size=ms.length:=by rw[<-hj.length];simp
  wp_walk using wpAny_loadPart' hl,wpAny_loadPart' hb,wpAny_forIn_list _ (fun rest b s'=>b.1=none/\s'=⟨hp,g,d,tk,os⟩/\∃(vs ws:List Value) (ns' ms':List Int),rest=vs.zip ws/\
   IntsAre vs ns'/\IntsAre ws ms'/\ns'.length+items2.size=ms'.length+items.size/\R (.ok (.ret (.bool (lexLe ns' ms')))) ⟨hp,g,d,tk,os⟩) _
  case turn=>
   rintro⟨y,x⟩ rest b s' ⟨hb',rfl,vs,ws,ns',ms',hz,hvi,hwi,hlen,hR⟩
   cases hvi with
   | nil=>rw[List.zip_nil_left] at hz;cases hz
   | cons a t hvi'=>
    cases hwi with
    | nil=>rw[List.zip_nil_right] at hz;cases hz
    | cons c u hwi'=>
     rw[List.zip_cons_cons] at hz
     injection hz with hyx hrest
     injection hyx with hy hx
     subst hy hx
     rw[lexLe_cons] at hR
     simp only[List.length_cons] at hlen
     obtain⟨e,he,hiff⟩:=kYg A.in1 ⟨hp,g,d,tk,os⟩ a t c u
     refine wpAny_bind (he prog w _ _ ?_)
     cases e with
     | true=>
      rw[if_pos (hiff.mp rfl)] at hR
      wp_walk
      exact⟨rfl,rfl,_,_,_,_,hrest,hvi',hwi',by omega,hR⟩
     | false=>
      rw[if_neg (fun q=>absurd (hiff.mpr q) Bool.false_ne_true)] at hR
      have hri:=kXf A.in1 ⟨hp,g,d,tk,os⟩ a t c u prog w
      wp_walk using hri
      exact⟨_,rfl,by simpa using hR⟩
  case fin=>
   rintro⟨b1,b2⟩ s' ⟨hb',rfl,vs,ws,ns',ms',hz,hvi,hwi,hlen,hR⟩
   simp only at hb'
   subst hb'
   have hv:lexLe ns' ms'=decide (items.size<=items2.size):=by
    cases hvi with
    | nil=>
     simp only[List.length_nil] at hlen
     rw[lexLe_nil]
     exact (decide_eq_true (by omega)).symm
    | cons a t hv=>
     cases hwi with
     | nil=>
      simp only[List.length_nil,List.length_cons] at hlen
      rw[jXr]
      exact (decide_eq_false (by omega)).symm
     | cons c u hw=>
      rw[List.zip_cons_cons] at hz
      cases hz
   rw[hv] at hR
   wp_walk
   exact⟨_,rfl,by simpa[Builtin.Tuple.tupleCompareSizes] using hR⟩
  case h=>
   exact⟨rfl,rfl,items.toList,items2.toList,ns,ms,rfl,hi,hj,by omega,h⟩
end
theorem le_tupInts {prog:Program} {w:World} {A:Around} {E:Value->Shared->Prop} {s:Shared} {l b:Addr} {items items2:Array Value} {ns ms:List Int} {Q:Value->Shared->Prop} (hl:IsTup s.heap l items) (hb:IsTup s.heap b items2) (hi:IntsAre items.toList ns) (hj:IntsAre items2.toList ms)
  (hu:A.units<cLine) (h:Q (.bool (lexLe ns ms)) s):wpAny (model prog w) A (compareOp .LtE (.ref l) (.ref b)) Q E s:=by
 obtain⟨⟨cls,dd,data,sl⟩,ho,hc,n,hd⟩:=id hl
 obtain⟨⟨cls2,dd2,data2,sl2⟩,ho2,hc2,n2,hd2⟩:=id hb
 simp only at hc hd hc2 hd2
 subst hc hd hc2 hd2
 exact richCompare_meets_room (op:= .LtE) ⟨_,ho,rfl⟩ ⟨_,ho2,rfl⟩ PySem.F.slot_tuple_le PySem.F.entry_tuple_le (PySem.F.args_tuple_le_2 _ _) (jX7 l b items items2 n n2 dd dd2 sl sl2 ns ms hi hj)
  ⟨ho,ho2,show Value.bool (lexLe ns ms)≠Value.notImplemented/\Q (.bool (lexLe ns ms)) s from⟨(fun x=>nomatch x),h⟩⟩ hu
end HT
namespace L3
open PySem PySem.Spec PyProof.Rows L2
section
variable {X:Cx}
theorem jQf {K:PySem.W.Frag} {H:Hp}:∀ {ns:List Int} {vs:List V},Reps K H (ns.map T.int) vs->vs=ns.map V.int
 | [],_,h=>h
 | n::ns,_,⟨v,ws,e,r,rs⟩=>by
  subst e;cases (show v= .int n from r)
  rw[jQf rs];rfl
def rLeT:R3:=fun x y G Q=>∃ns ms,x= .tup (ns.map T.int)/\y= .tup (ms.map T.int)/\Q (.bl (HT.lexLe ns ms)) G
theorem o_leT (hu:X.A.units<cLine):Op3 X (compareOp .LtE) rLeT:=by
 rintro pins s τ G H x y v u Q ⟨σ,I,hs,hg⟩ ⟨a,ra,rv⟩ ⟨b,rb,ru⟩ ⟨ns,ms,ex,ey,q⟩
 subst ex;subst ey
 obtain⟨p,vs,e1,h1,h2⟩:=(show ∃p vs,a= .ref p/\H p=some (.tup vs)/\Reps X.K H (ns.map T.int) vs from ra)
 obtain⟨p',ws,e2,h3,h4⟩:=(show ∃p vs,b= .ref p/\H p=some (.tup vs)/\Reps X.K H (ms.map T.int) vs from rb)
 subst e1;subst e2
 cases rv;cases ru
 rw[jQf h2] at h1
 rw[jQf h4] at h3
 obtain⟨its,r1,p1,_⟩:=I.tuple (.of h1)
 obtain⟨its2,r2,p2,_⟩:=I.tuple (.of h3)
 exact HT.le_tupInts p1 p2 (show IntsAre its.toArray.toList ns from jXz r1) (show IntsAre its2.toArray.toList ms from jXz r2) hu ⟨.bl _,G,H,.refl H,⟨σ,I,hs,hg⟩,⟨.bl _,rfl,rfl⟩,q⟩
def rLeI:R3:=rI0 fun i j=> .bl (decide (i<=j))
def rLeA:R3:=fun x y G Q=>rLeI x y G Q\/rLeT x y G Q
theorem o_leA (hu:X.A.units+20<cLine):Op3 X (compareOp .LtE) rLeA:=o_le.or (o_leT (by omega))
theorem kVd {G:Gp} {x y:T} {b:Bool} (h:eqG G x y=some b):
  (∃p q xs ys,x= .ref p/\y= .ref q/\G p=some (.lst xs)/\G q=some (.lst ys)/\jU7 xs=true/\jU7 ys=true/\b=eqTs xs ys)\/(eqOk x=true/\eqOk y=true/\b=eqT x y):=by
 by_cases hr:∃p q,x= .ref p/\y= .ref q
 ·obtain⟨p,q,ex,ey⟩:=hr
  subst ex;subst ey
  refine .inl ?_
  simp only[eqG] at h
  split at h
  ·rename_i xs ys h1 h2
   split at h
   ·rename_i hc
    cases h
    exact⟨p,q,xs,ys,rfl,rfl,h1,h2,hc.1,hc.2,rfl⟩
   ·cases h
  ·cases h
 ·refine .inr ?_
  have e:eqG G x y=if eqOk x=true/\eqOk y=true then some (eqT x y) else none:=by
   cases x with
   | ref p=>cases y with
    | ref q=>exact absurd ⟨p,q,rfl,rfl⟩ hr
    | _=>rfl
   | _=>rfl
  rw[e] at h
  split at h
  ·rename_i hc
   cases h
   exact⟨hc.1,hc.2,rfl⟩
  ·cases h
mutual
theorem jZ6 {X:Cx} {pins:List (Addr×Obj)} {σ:L2.St} {H:Hp} {s:Shared} (I:Inv X pins σ H s):∀(x:T) {a:V} {u:Value},tree x=true->Rep X.K H x a->RelV a u->∃as,Reads s.heap u (td x) as
 | .non,a,u,_,r,q=>by cases (show a= .non from r);cases q;exact⟨_,.none⟩
 | .bl b,a,u,_,r,q=>by cases (show a= .bl b from r);cases q;exact⟨_,.bool b⟩
 | .int b,a,u,_,r,q=>by cases (show a= .int b from r);obtain⟨t,rfl⟩:=q;exact⟨_,.int b t⟩
 | .str b,a,u,_,r,q=>by cases (show a= .str b from r);obtain⟨t,rfl⟩:=q;exact⟨_,.str b t⟩
 | .tup xs,a,u,ht,r,q=>by
  obtain⟨p,vs,e1,h1,h2⟩:=(show ∃p vs,a= .ref p/\H p=some (.tup vs)/\Reps X.K H xs vs from r)
  subst e1;cases q
  obtain⟨its,rv,⟨o,ho,hc,n,hd⟩,_⟩:=I.tuple (.of h1)
  obtain⟨as,ra⟩:=jVl I xs (show jKp xs=true from ht) h2 rv
  exact⟨_,.tuple ho hc hd (by simpa using ra)⟩
 | .ref _,_,_,ht,_,_=>absurd (show false=true from ht) Bool.false_ne_true
 | .scr _,_,_,ht,_,_=>absurd (show false=true from ht) Bool.false_ne_true
 | .ty _,_,_,ht,_,_=>absurd (show false=true from ht) Bool.false_ne_true
theorem jVl {X:Cx} {pins:List (Addr×Obj)} {σ:L2.St} {H:Hp} {s:Shared} (I:Inv X pins σ H s):∀(xs:List T) {vs:List V} {us:List Value},jKp xs=true->Reps X.K H xs vs->Vals vs us->∃as,ReadsAll s.heap us (tds xs) as
 | [],_,_,_,r,q=>by cases r;cases q;exact⟨_,.nil⟩
 | x::xs,_,_,ht,⟨v,ws,e,r1,r2⟩,q=>by
  subst e
  cases q with
  | cons q1 q2=>
   have hx:tree x=true/\jKp xs=true:=by simpa[jKp] using ht
   obtain⟨as,ra⟩:=jZ6 I x hx.1 r1 q1
   obtain⟨bs,rb⟩:=jVl I xs hx.2 r2 q2
   exact⟨_,.cons ra rb⟩
end
mutual
theorem eqv_T:∀(x y:T),tree x=true->tree y=true->PyData.eqv (td x) (td y)=eqT x y
 | .non,y,_,hy=>by cases y<;>first | rfl | exact absurd (show false=true from hy) Bool.false_ne_true
 | .bl b,y,_,hy=>by cases y<;>first | rfl | exact absurd (show false=true from hy) Bool.false_ne_true
 | .int b,y,_,hy=>by cases y<;>first | rfl | exact absurd (show false=true from hy) Bool.false_ne_true
 | .str b,y,_,hy=>by cases y<;>first | rfl | exact absurd (show false=true from hy) Bool.false_ne_true
 | .tup xs,y,hx,hy=>by
  cases y with
  | tup ys=>exact kU9 xs ys (show jKp xs=true from hx) (show jKp ys=true from hy)
  | _=>first | rfl | exact absurd (show false=true from hy) Bool.false_ne_true
 | .ref _,_,ht,_=>absurd (show false=true from ht) Bool.false_ne_true
 | .scr _,_,ht,_=>absurd (show false=true from ht) Bool.false_ne_true
 | .ty _,_,ht,_=>absurd (show false=true from ht) Bool.false_ne_true
theorem kU9:∀(xs ys:List T),jKp xs=true->jKp ys=true->PyData.eqvAll (tds xs) (tds ys)=eqTs xs ys
 | [],[],_,_=>rfl
 | [],_::_,_,_=>rfl
 | _::_,[],_,_=>rfl
 | x::xs,y::ys,hx,hy=>by
  have hx':tree x=true/\jKp xs=true:=by simpa[jKp] using hx
  have hy':tree y=true/\jKp ys=true:=by simpa[jKp] using hy
  show (PyData.eqv (td x) (td y)&&PyData.eqvAll (tds xs) (tds ys))=(eqT x y&&eqTs xs ys)
  rw[eqv_T x y hx'.1 hy'.1,kU9 xs ys hx'.2 hy'.2]
end
theorem kKm {pins:List (Addr×Obj)} {σ:L2.St} {H:Hp} {s:Shared} {G:Gp} {x y:T} {a b:V} {u v:Value} {k:Bool} (I:Inv X pins σ H s) (hg:GRel X.K H G) (ra:Rep X.K H x a) (rb:Rep X.K H y b) (ru:RelV a u) (rv:RelV b v) (h:eqG G x y=some k):
  ∃da db as bs,Reads s.heap u da as/\Reads s.heap v db bs/\da.canLay0=true/\db.canLay0=true/\da.depth<=50/\PyData.eqv da db=k:=by
 rcases kVd h with ⟨p,q,xs,ys,ex,ey,hp,hq,ox,oy,e⟩ | ⟨ox,oy,e⟩
 ·subst ex;subst ey
  cases (show a= .ref p from ra);cases (show b= .ref q from rb)
  cases ru;cases rv
  obtain⟨vs,h1,h2⟩:=hg.lst hp
  obtain⟨ws,h3,h4⟩:=hg.lst hq
  obtain⟨its,r1,⟨o,n,ho,hc,_,hd⟩,_⟩:=I.list (.of h1)
  obtain⟨its',r2,⟨o',n',ho',hc',_,hd'⟩,_⟩:=I.list (.of h3)
  simp only[jU7,Bool.and_eq_true,decide_eq_true_eq] at ox oy
  obtain⟨as,r3⟩:=jVl I xs ox.1.1 h2 r1
  obtain⟨bs,r4⟩:=jVl I ys oy.1.1 h4 r2
  exact⟨.list (tds xs),.list (tds ys),_,_,.list ho hc hd (by simpa using r3),.list ho' hc' hd' (by simpa using r4),ox.1.2,oy.1.2,ox.2,by rw[e];exact kU9 xs ys ox.1.1 oy.1.1⟩
 ·simp only[eqOk,Bool.and_eq_true,decide_eq_true_eq] at ox oy
  obtain⟨as,r3⟩:=jZ6 I x ox.1.1 ra ru
  obtain⟨bs,r4⟩:=jZ6 I y oy.1.1 rb rv
  exact⟨td x,td y,_,_,r3,r4,ox.1.2,oy.1.2,ox.2,by rw[e];exact eqv_T x y ox.1.1 oy.1.1⟩
theorem jZf (hu:X.A.units+64<cLine):Op3 X (compareOp .Eq) rEqA:=by
 rintro pins s τ G H x y v u Q ⟨σ,I,hs,hg⟩ ⟨a,ra,rv⟩ ⟨b,rb,ru⟩ ⟨k,hk,q⟩
 obtain⟨da,db,as,bs,r1,r2,c1,c2,d,e⟩:=kKm I hg ra rb rv ru hk
 exact SeqAt.compareEq_reads r1 r2 c1 c2 (by omega) ⟨.bl k,G,H,.refl H,⟨σ,I,hs,hg⟩,⟨.bl k,rfl,by rw[e];rfl⟩,q⟩
theorem kZ7 (hu:X.A.units+64<cLine):Op3 X (compareOp .NotEq) rNeA:=by
 rintro pins s τ G H x y v u Q ⟨σ,I,hs,hg⟩ ⟨a,ra,rv⟩ ⟨b,rb,ru⟩ ⟨k,hk,q⟩
 obtain⟨da,db,as,bs,r1,r2,c1,c2,d,e⟩:=kKm I hg ra rb rv ru hk
 exact SeqAt.compareNe_reads r1 r2 c1 c2 (by omega) ⟨.bl (!k),G,H,.refl H,⟨σ,I,hs,hg⟩,⟨.bl (!k),rfl,by rw[e];rfl⟩,q⟩
end
section
variable {X:Cx}
def jUu:T->Bool
 | .non=>true
 | .bl _=>true
 | .int _=>true
 | .str _=>true
 | _=>false
theorem jVo {K:PySem.W.Frag} {H:Hp} {x:T} {a:V} (r:Rep K H x a) (f:jUu x=true):jXt a=true:=by
 cases x with
 | non=>cases (show a= .non from r);rfl
 | bl _=>cases (show a= .bl _ from r);rfl
 | int _=>cases (show a= .int _ from r);rfl
 | str _=>cases (show a= .str _ from r);rfl
 | _=>exact absurd (show false=true from f) Bool.false_ne_true
theorem kU6 {K:PySem.W.Frag} {H:Hp} {x y:T} {a b:V} (r:Rep K H x a) (q:Rep K H y b) (f:jUu x=true) (g:jUu y=true):eqV a b=eqT x y:=by
 cases x with
 | non=>cases (show a= .non from r);cases y with
  | non=>cases (show b= .non from q);rfl
  | bl _=>cases (show b= .bl _ from q);rfl
  | int _=>cases (show b= .int _ from q);rfl
  | str _=>cases (show b= .str _ from q);rfl
  | _=>exact absurd (show false=true from g) Bool.false_ne_true
 | bl _=>cases (show a= .bl _ from r);cases y with
  | non=>cases (show b= .non from q);rfl
  | bl _=>cases (show b= .bl _ from q);rfl
  | int _=>cases (show b= .int _ from q);rfl
  | str _=>cases (show b= .str _ from q);rfl
  | _=>exact absurd (show false=true from g) Bool.false_ne_true
 | int _=>cases (show a= .int _ from r);cases y with
  | non=>cases (show b= .non from q);rfl
  | bl _=>cases (show b= .bl _ from q);rfl
  | int _=>cases (show b= .int _ from q);rfl
  | str _=>cases (show b= .str _ from q);rfl
  | _=>exact absurd (show false=true from g) Bool.false_ne_true
 | str _=>cases (show a= .str _ from r);cases y with
  | non=>cases (show b= .non from q);rfl
  | bl _=>cases (show b= .bl _ from q);rfl
  | int _=>cases (show b= .int _ from q);rfl
  | str _=>cases (show b= .str _ from q);rfl
  | _=>exact absurd (show false=true from g) Bool.false_ne_true
 | _=>exact absurd (show false=true from f) Bool.false_ne_true
def inT (x:T) (xs:List T):Bool:=xs.any fun y=>eqT y x
theorem jYr {K:PySem.W.Frag} {H:Hp} {x:T} {a:V} (r:Rep K H x a) (f:jUu x=true):∀ {xs:List T} {vs:List V},Reps K H xs vs->xs.all jUu=true->vs.all jXt=true/\inV a vs=inT x xs
 | [],_,h,_=>by cases h;exact⟨rfl,rfl⟩
 | y::ys,_,⟨v,ws,e,r1,r2⟩,g=>by
  subst e
  rw[List.all_cons,Bool.and_eq_true] at g
  obtain⟨h1,h2⟩:=jYr r f r2 g.2
  refine⟨by rw[List.all_cons,jVo r1 g.1,h1];rfl,?_⟩
  unfold inV inT at h2 ⊢
  rw[List.any_cons,List.any_cons,kU6 r1 r g.1 f,h2]
def rInF (neg:Bool):R3:=fun x y G Q=>∃xs,seqT G y=some xs/\jUu x=true/\xs.all jUu=true/\Q (.bl (if neg then !inT x xs else inT x xs)) G
theorem qJk {neg:Bool} {op:CmpOp} (h:OpR X (compareOp op) (L2.rIn X.K neg)):Op3 X (compareOp op) (rInF neg):=
 Op3.of h fun H G x y a b Q hg ra rb ⟨xs,hx,fx,fs,q⟩=>by
  obtain⟨p,vs,e,hq,r⟩:=jQe hg rb hx
  obtain⟨h1,h2⟩:=jYr ra fx r fs
  exact⟨p,vs,e,hq,jVo ra fx,h1,.bl _,G,.refl H,hg,by rw[h2];rfl,q⟩
theorem o_notInF:Op3 X (compareOp .NotIn) (rInF true):=qJk jZb
def jV7:T->Option Key
 | .int i=>some (.inl i)
 | .str x=>some (.inr x)
 | _=>none
def allK {K:Type} (f:T->Option K):List T->Option (List K)
 | []=>some []
 | x::xs=>match f x,allK f xs with
  | some k,some ks=>some (k::ks)
  | _,_=>none
def key1:T->Option K1
 | .tup ts=>(allK jV7 ts).map .inr
 | x=>(jV7 x).map .inl
def key2:T->Option K2
 | .tup ts=>(allK key1 ts).map .inr
 | x=>(jV7 x).map .inl
def jUs:List T->Option TKey:=allK key2
theorem jUt {K:PySem.W.Frag} {H:Hp} {x:T} {a:V} {k:Key} (h:jV7 x=some k) (r:Rep K H x a):a=kV k:=by
 cases x with
 | int i=>cases h;exact r
 | str i=>cases h;exact r
 | non=>cases h
 | bl _=>cases h
 | tup _=>cases h
 | scr _=>cases h
 | ref _=>cases h
 | ty _=>cases h
theorem jVs {K:PySem.W.Frag} {H:Hp} {κ:Type} {f:T->Option κ} {R:κ->V->Prop} (hf:∀x k a,f x=some k->Rep K H x a->R k a):∀ {xs:List T} {vs:List V} {ks:List κ},allK f xs=some ks->Reps K H xs vs->Paired R ks vs
 | [],_,_,h,r=>by cases h;cases (show _=[] from r);exact .nil
 | x::xs,_,ks,h,⟨v,ws,e,r1,r2⟩=>by
  subst e
  unfold allK at h
  cases e1:f x with
  | none=>rw[e1] at h;cases h
  | some k=>
   cases e2:allK f xs with
   | none=>rw[e1,e2] at h;cases h
   | some ks'=>
    rw[e1,e2] at h;cases h
    exact .cons (hf _ _ _ e1 r1) (jVs hf e2 r2)
theorem kX4 {K:PySem.W.Frag} {H:Hp} (x:T) (k:K1) (a:V) (h:key1 x=some k) (r:Rep K H x a):Rk1 H k a:=by
 cases x with
 | tup ts=>
  obtain⟨ks,h1,rfl⟩:=Option.map_eq_some_iff.mp (show (allK jV7 ts).map Sum.inr=some k from h)
  obtain⟨p,vs,e,h3,h4⟩:=(show ∃p vs,a= .ref p/\H p=some (.tup vs)/\Reps K H ts vs from r)
  exact⟨p,vs,e,h3,jVs (fun x k a h r=>jUt h r) h1 h4⟩
 | int i=>cases h;exact r
 | str i=>cases h;exact r
 | non=>cases h
 | bl _=>cases h
 | scr _=>cases h
 | ref _=>cases h
 | ty _=>cases h
theorem kX3 {K:PySem.W.Frag} {H:Hp} (x:T) (k:K2) (a:V) (h:key2 x=some k) (r:Rep K H x a):Rk2 H k a:=by
 cases x with
 | tup ts=>
  obtain⟨ks,h1,rfl⟩:=Option.map_eq_some_iff.mp (show (allK key1 ts).map Sum.inr=some k from h)
  obtain⟨p,vs,e,h3,h4⟩:=(show ∃p vs,a= .ref p/\H p=some (.tup vs)/\Reps K H ts vs from r)
  exact⟨p,vs,e,h3,jVs kX4 h1 h4⟩
 | int i=>cases h;exact r
 | str i=>cases h;exact r
 | non=>cases h
 | bl _=>cases h
 | scr _=>cases h
 | ref _=>cases h
 | ty _=>cases h
theorem jU4 {K:PySem.W.Frag} {H:Hp} {xs:List T} {vs:List V} {ks:TKey} {p:Addr} (h:jUs xs=some ks) (e:H p=some (.tup vs)) (r:Reps K H xs vs):TKeyAt H ks p:=⟨vs,e,jVs kX3 h r⟩
def valT {κ:Type} [DecidableEq κ] (kvs:List (κ×T)) (k:κ):Option T:=(kvs.find? fun kv=>decide (kv.1=k)).map (·.2)
noncomputable def putT {κ:Type} [DecidableEq κ] (kvs:List (κ×T)) (k:κ) (v:T):List (κ×T):=
 if (kvs.any fun kv=>decide (kv.1=k))=true then kvs.map (fun kv=>if kv.1=k then (kv.1,v) else kv) else kvs++[(k,v)]
theorem PKV.val {κ:Type} [DecidableEq κ] {K:PySem.W.Frag} {H:Hp} {kvs:List (κ×T)} {ws:List (κ×V)} (r:PKV K H kvs ws) (k:κ):(∀t,valT kvs k=some t->∃v,valV ws k=some v/\Rep K H t v)/\(valT kvs k).isSome=(valV ws k).isSome:=by
 unfold PKV at r
 induction r with
 | nil=>exact⟨fun t h=>by simp[valT] at h,rfl⟩
 | @cons p q ps qs h t ih=>
  by_cases e:p.1=k
  ·have e':q.1=k:=h.1.symm.trans e
   have b:valT (p::ps) k=some p.2:=by simp[valT,List.find?_cons,e]
   rw[b,jVh e']
   exact⟨fun t ht=>by cases ht;exact⟨q.2,rfl,h.2⟩,rfl⟩
  ·have e':¬ q.1=k:=fun z=>e (h.1.trans z)
   have b:valT (p::ps) k=valT ps k:=by simp[valT,List.find?_cons,e]
   rw[b,jVi e']
   exact ih
theorem PKV.any {κ:Type} [DecidableEq κ] {K:PySem.W.Frag} {H:Hp} {kvs:List (κ×T)} {ws:List (κ×V)} (r:PKV K H kvs ws) (k:κ):(kvs.any fun kv=>decide (kv.1=k))=ws.any fun kv=>decide (kv.1=k):=by
 unfold PKV at r
 induction r with
 | nil=>rfl
 | cons h t ih=>rw[List.any_cons,List.any_cons,ih,h.1]
theorem PKV.put {κ:Type} [DecidableEq κ] {K:PySem.W.Frag} {H:Hp} {kvs:List (κ×T)} {ws:List (κ×V)} (r:PKV K H kvs ws) (k:κ) {t:T} {v:V} (rt:Rep K H t v):PKV K H (putT kvs k t) (putK ws k v):=by
 unfold putT putK
 rw[r.any k]
 by_cases e:(ws.any fun kv=>decide (kv.1=k))=true
 ·rw[if_pos e,if_pos e]
  unfold PKV at r ⊢
  clear e
  induction r with
  | nil=>exact .nil
  | @cons p q ps qs h t' ih=>
   rw[List.map_cons,List.map_cons]
   refine .cons ?_ ih
   obtain⟨h1,h2⟩:=h
   by_cases e:p.1=k
   ·rw[if_pos e,if_pos (h1.symm.trans e)];exact⟨h1,rt⟩
   ·rw[if_neg e,if_neg (fun z=>e (h1.trans z))];exact⟨h1,h2⟩
 ·rw[if_neg e,if_neg e];exact Paired.snoc r ⟨rfl,rt⟩
theorem PKV.length {κ:Type} {K:PySem.W.Frag} {H:Hp} {kvs:List (κ×T)} {ws:List (κ×V)} (r:PKV K H kvs ws):kvs.length=ws.length:=Paired.length r
noncomputable def dAt (G:Gp) (x y:T):Option (Option T):=match x with
 | .ref p=>match G p with
  | some (.dct kvs)=>match y with
   | .tup ys=>match jUs ys with
    | some ks=>some (valT kvs ks)
    | none=>none
   | _=>none
  | some (.dck kvs)=>match jV7 y with
   | some k=>some (valT kvs k)
   | none=>none
  | some (.fdc kvs)=>match y with
   | .tup ys=>match jUs ys with
    | some ks=>some (valT kvs ks)
    | none=>none
   | _=>none
  | _=>none
 | _=>none
theorem kVk {K:PySem.W.Frag} {H:Hp} {G:Gp} {x y:T} {a b:V} {o:Option T} (hg:GRel K H G) (ra:Rep K H x a) (rb:Rep K H y b) (h:dAt G x y=some o):
  ∃p ov,a= .ref p/\DGet H p b ov/\o.isSome=ov.isSome/\∀t,o=some t->∃v,ov=some v/\Rep K H t v:=by
 unfold dAt at h
 split at h
 ·rename_i p
  cases (show a= .ref p from ra)
  split at h
  ·rename_i kvs hG
   split at h
   ·rename_i ys
    split at h
    ·rename_i ks hk
     cases h
     obtain⟨ws,h1,h2⟩:=hg p _ hG
     obtain⟨q,vs,e,h3,h4⟩:=(show ∃q vs,b= .ref q/\H q=some (.tup vs)/\Reps K H ys vs from rb)
     subst e
     exact⟨p,_,rfl,DGet.t h1 (jU4 hk h3 h4),(h2.val ks).2,(h2.val ks).1⟩
    ·cases h
   ·cases h
  ·rename_i kvs hG
   split at h
   ·rename_i k hk
    cases h
    obtain⟨ws,h1,h2⟩:=hg p _ hG
    rw[jUt hk rb]
    exact⟨p,_,rfl,DGet.k h1,(h2.val k).2,(h2.val k).1⟩
   ·cases h
  ·rename_i kvs hG
   split at h
   ·rename_i ys
    split at h
    ·rename_i ks hk
     cases h
     obtain⟨ob,ws,h1,h2⟩:=(show ∃ob ws,H p=some (.frz ob (.dT ws))/\PKV K H kvs ws from hg p _ hG)
     obtain⟨q,vs,e,h3,h4⟩:=(show ∃q vs,b= .ref q/\H q=some (.tup vs)/\Reps K H ys vs from rb)
     subst e
     exact⟨p,_,rfl,.inr ⟨ws,ks,q,.inr ⟨ob,h1⟩,rfl,jU4 hk h3 h4,rfl⟩,(h2.val ks).2,(h2.val ks).1⟩
    ·cases h
   ·cases h
  ·cases h
 ·cases h
def rDGet:R3:=fun x y G Q=>∃t,dAt G x y=some (some t)/\Q t G
theorem qJd (hu:X.A.units+20<cLine):Ix3 X rDGet:=by
 rintro value slice pins s τ G H x y v u Q ⟨σ,I,hs,hg⟩ ⟨a,ra,rv⟩ ⟨b,rb,ru⟩ ⟨t,hd,q⟩ hsl
 obtain⟨p,ov,e,g,_,hh⟩:=kVk hg ra rb hd
 obtain⟨w,ew,rw'⟩:=hh t rfl
 subst e;subst ew
 cases rv
 have hT:s.TypeIs (.ref p) "dict":=kJv I g
 unfold subscriptTail
 refine wpAny_bind ?_
 rw[getitemInPython_of_ne hT.not_modules]
 refine wpAny_bind (wpAny_specialOf hT PySem.F.slot_dict_getitem.lookup ?_)
 have fin:wpAny (model X.prog X.w) X.A (subscripted slice false (.ref p) u) (fun r s₃=>wpAny (model X.prog X.w) X.A (letTemporaryGo value (.ref p) r >>= fun _=>pure r) (EP3 X pins τ H Q) X.xe s₃) X.xe s:=by
  rw[hsl]
  exact wpAny_operating (kVj hu I g ru fun w' s' I' r'=>wpAny_bind (wpAny_letTemporaryGo (wpAny_pure ⟨t,G,H,.refl H,⟨σ,I',hs,hg⟩,⟨w,rw',r'⟩,q⟩)))
 first
  | exact wpAny_pure (wpAny_bind fin)
  | exact wpAny_bind (wpAny_pure (wpAny_bind fin))
  | exact wpAny_bind fin
theorem Ix3.or {r r':R3} (h:Ix3 X r) (h':Ix3 X r'):Ix3 X (fun x y G Q=>r x y G Q\/r' x y G Q):=by
 intro value slice pins s τ G H x y v u Q I rx ry q hs
 rcases q with q | q
 ·exact h value slice pins s τ G H x y v u Q I rx ry q hs
 ·exact h' value slice pins s τ G H x y v u Q I rx ry q hs
def rIxA:R3:=fun x y G Q=>rIx x y G Q\/rDGet x y G Q
theorem qJe (hu:X.A.units+20<cLine):Ix3 X rIxA:=ix_any.or (qJd hu)
def kUe:R3:=fun x y G Q=>∃o,dAt G y x=some o/\Q (.bl (!o.isSome)) G
theorem kXs (hu:X.A.units+20<cLine):Op3 X (compareOp .NotIn) kUe:=by
 rintro pins s τ G H x y v u Q ⟨σ,I,hs,hg⟩ ⟨a,ra,rv⟩ ⟨b,rb,ru⟩ ⟨o,hd,q⟩
 obtain⟨p,ov,e,g,e2,_⟩:=kVk hg rb ra hd
 subst e;cases ru
 exact qJw hu I g rv fun s' I'=>⟨.bl _,G,H,.refl H,⟨σ,I',hs,hg⟩,⟨.bl _,rfl,by rw[<-e2];rfl⟩,q⟩
def kUc:R3:=fun x y G Q=>rInF true x y G Q\/kUe x y G Q
theorem kZ6 (hu:X.A.units+20<cLine):Op3 X (compareOp .NotIn) kUc:=o_notInF.or (kXs hu)
def jZ2:TE3:=fun _ G Q=>(∀p,G p=none->Q (.ref p) (gup G p (.dct [])))\/∀p,G p=none->Q (.ref p) (gup G p (.dck []))
theorem e_dct {pos:Pos}:PE3 X (.Dict [] [] pos) jZ2:=by
 rintro pins s τ G H Q ⟨σ,I,hs,hg⟩ h
 rcases h with h | h
 ·exact thn (kXn pins s σ H (up X.K H Q) I fun p hp=>⟨.ref p,_,.upd (.none hp),hg.upd (.none hp) (go:= .dct []) ⟨[],jJ7,.nil⟩,rfl,h p (hg.fresh hp)⟩) fun u s' z=>jUb hs z
 ·exact thn (kXo pins s σ H (up X.K H Q) I fun p hp=>⟨.ref p,_,.upd (.none hp),hg.upd (.none hp) (go:= .dck []) ⟨[],jJ7,.nil⟩,rfl,h p (hg.fresh hp)⟩) fun u s' z=>jUb hs z
noncomputable def kY2:T->T->T->Gp->(Gp->Prop)->Prop:=fun o i v G Q=>∃p ys ks kvs,o= .ref p/\i= .tup ys/\jUs ys=some ks/\G p=some (.dct kvs)/\kvs.length<sizeLine/\Q (gup G p (.dct (putT kvs ks v)))
def kY3:T->T->T->Gp->(Gp->Prop)->Prop:=fun o i v G Q=>∃p k kvs,o= .ref p/\jV7 i=some k/\G p=some (.dck kvs)/\kvs.length<sizeLine/\Q (gup G p (.dck (putT kvs k v)))
theorem kZu (hu:X.A.units+20<cLine):Set3 X kY2:=by
 rintro pins s τ G H o i v ov iv u Q ⟨σ,I,hs,hg⟩ ⟨a,ra,rv⟩ ⟨b,rb,ru⟩ ⟨c,rc,rw'⟩ ⟨p,ys,ks,kvs,eo,ei,hk,hG,hz,q⟩
 subst eo;subst ei
 cases (show a= .ref p from ra);cases rv
 obtain⟨ws,h1,h2⟩:=hg p _ hG
 obtain⟨b',vs,e,h3,h4⟩:=(show ∃q vs,b= .ref q/\H q=some (.tup vs)/\Reps X.K H ys vs from rb)
 subst e
 have h3:=jU4 hk h3 h4
 have e:Ext H (upd H p (.dT (putK ws ks c))):= .upd (.dT h1)
 exact jZl hu I (DPut.t h1 h3 (by rw[<-h2.length];exact hz)) ru rw' fun s' I'=>⟨_,_,e,⟨σ,I',hs.mono e,hg.upd (.dT h1) (go:= .dct (putT kvs ks v)) ⟨_,jJ7,(h2.put ks rc).mono e⟩⟩,q⟩
theorem kZv (hu:X.A.units+20<cLine):Set3 X kY3:=by
 rintro pins s τ G H o i v ov iv u Q ⟨σ,I,hs,hg⟩ ⟨a,ra,rv⟩ ⟨b,rb,ru⟩ ⟨c,rc,rw'⟩ ⟨p,k,kvs,eo,hk,hG,hz,q⟩
 subst eo
 cases (show a= .ref p from ra);cases rv
 obtain⟨ws,h1,h2⟩:=hg p _ hG
 have eb:=jUt hk rb
 subst eb
 have e:Ext H (upd H p (.dK (putK ws k c))):= .upd (.dK h1)
 exact jZl hu I (DPut.k h1 (by rw[<-h2.length];exact hz)) ru rw' fun s' I'=>⟨_,_,e,⟨σ,I',hs.mono e,hg.upd (.dK h1) (go:= .dck (putT kvs k v)) ⟨_,jJ7,(h2.put k rc).mono e⟩⟩,q⟩
theorem Set3.or {r r':T->T->T->Gp->(Gp->Prop)->Prop} (h:Set3 X r) (h':Set3 X r'):Set3 X (fun o i v G Q=>r o i v G Q\/r' o i v G Q):=by
 intro pins s τ G H o i v ov iv u Q I ro ri rv q
 rcases q with q | q
 ·exact h pins s τ G H o i v ov iv u Q I ro ri rv q
 ·exact h' pins s τ G H o i v ov iv u Q I ro ri rv q
def rSetA:T->T->T->Gp->(Gp->Prop)->Prop:=fun o i v G Q=>kXg o i v G Q\/kY2 o i v G Q\/kY3 o i v G Q
theorem s_any (hu:X.A.units+20<cLine):Set3 X rSetA:=s_list.or ((kZu hu).or (kZv hu))
end
section
variable {X:Cx}
abbrev TO3:=St3->Gp->(Option Int->Gp->Prop)->Prop
noncomputable def PO3 (X:Cx) (e:Option Expr) (t:TO3):Prop:=
 ∀(pins:List (Addr×Obj)) (s:Shared) (τ:St3) (G:Gp) (H:Hp) (Q:Option Int->Gp->Prop),Inv3 X pins τ G H s->t τ G Q->
  wpAny (model X.prog X.w) X.A (evalPart e X.env) (fun u s'=>∃o G' H',Ext H H'/\Inv3 X pins τ G' H' s'/\IsPart u o/\Q o G') X.xe s
def kV1 (t:TE3):TO3:=fun τ G Q=>t τ G fun x G1=>∃i,x= .int i/\Q (some i) G1
theorem p_some {e:Expr} {te:TE3} (h:PE3 X e te):PO3 X (some e) (kV1 te):=by
 intro pins s τ G H Q I hw
 rw[evalPart_some]
 refine thn (h pins s τ G H _ I hw) fun u s1 w_=>w_.el fun x G1 H1 e1 I1 r_ ⟨i,ex,q⟩=>r_.el fun v rv ru=> ?_
 subst ex
 cases (show v= .int i from rv)
 obtain⟨t,rfl⟩:=ru
 exact⟨some i,G1,H1,e1,I1,.int i t,q⟩
end
end L3
namespace HT
open PySem PyProof.Rows
end HT
namespace L3
open PySem PySem.Spec PyProof.Rows L2
section
variable {X:Cx}
def jKh (ta:TA3):TE3:=fun τ G Q=>ta τ G fun vs G1=>∃j:Int,vs=[.int j]/\ -(2^62)<=j/\j<=2^20/\∀p,G1 p=none->Q (.ref p) (gup G1 p (.lst (rngT 0 j.toNat)))
theorem kXc {K:PySem.W.Frag} {H:Hp} {n:Nat} {vs:List V} (hl:vs.length=n) (h:∀(i:Nat) v,vs[i]? =some v->v= .int (0+i)):Reps K H (rngT 0 n) vs:=by
 have e:vs=(List.range n).map fun (k:Nat)=>V.int (0+k):=by
  apply List.ext_getElem?
  intro i
  cases hv:vs[i]? with
  | none=>
   have:n<=i:=by rw[<-hl];exact List.getElem?_eq_none_iff.mp hv
   simp[this]
  | some v=>
   have hi:i<n:=by rw[<-hl];exact (List.getElem?_eq_some_iff.mp hv).1
   rw[h i v hv];simp[hi]
 rw[e]
 unfold rngT
 generalize List.range n=l
 induction l with
 | nil=>rfl
 | cons k ks ih=>exact⟨_,_,rfl,rfl,ih⟩
end
section
variable {X:Cx}
theorem jXf {a:Expr} {ta:TA3} {pos p p2 p3:Pos} (hgl:Gl X "list") (hml:X.mg "list"=none) (hgr:Gl X "range") (hmr:X.mg "range"=none) (hc:X.calm=true) (ha:PA3 X [a] ta) (hs:starEach [a] X.env=[(false,eval a X.env)]:=by rfl)
  (ho:starEach [Expr.Call (.Name "range" p2) [a] [] p3] X.env=[(false,eval (.Call (.Name "range" p2) [a] [] p3) X.env)]:=by rfl):
  PE3 X (.Call (.Name "list" p) [.Call (.Name "range" p2) [a] [] p3] [] pos) (jKh ta):=by
 intro pins s τ G H Q I h
 obtain⟨σ0,I0,hs0,hg0⟩:=id I
 refine wpAny_Call_Name_kw (jK1 I0 hgl hml (u:= .type "list") (by rfl) ?_)
 refine PyProof.Rows.callWith_type1 (T:="list") ?_ ho rfl
 rw[ho]
 show wpAny _ _ (spliced ((false,eval (.Call (.Name "range" p2) [a] [] p3) X.env)::backTo pos [])) _ _ s
 refine Calls.spliced_cons ?_
 refine Call_ (jK1 I0 hgr hmr boot_range (PyProof.Rows.callWith_type1 (thn (ha p3 pins s τ G H _ I h) fun us s1 w_=>w_.el fun xs G1 H1 e1 i_ r_ ⟨j,e,q1,q2,q⟩=>i_.el fun σ I1 hs1 hg1=>r_.el fun as ras rvs=> ?_) hs rfl))
 subst e
 obtain⟨v,rfl,rv⟩:=jUq ras
 cases (show v= .int j from rv)
 obtain⟨u,rfl,ru⟩:=rvs.one
 obtain⟨t,rfl⟩:=ru
 refine call_range_1 ?_
 refine Calls.spliced_nil ?_
 have I2:Inv X pins σ H1 {s1 with heap:=s1.heap.push {cls:= .type "range",data:= .fields #[.int 0 s1.toks,.int j t,.int 1 (s1.toks+1)]},toks:=s1.toks+1+1}:=I1.kept fun b o e=>Heap.get?_push_of_some _ e
 refine call_list_range (n:=j.toNat) (I1.ok.hd hc) (IsRange.new ..) (small_one (by omega) (by omega) q1 (by omega)) (by rw[rangeSize_one];split<;>omega) (by omega) fun h' tk acc' c' hk hobj hit=> ?_
 have hf:H1 (s1.heap.push {cls:= .type "range",data:= .fields #[.int 0 s1.toks,.int j t,.int 1 (s1.toks+1)]}).objs.size=none:=I2.hok.fresh (Nat.le_refl _)
 have hz:acc'.size<=sizeLine:=by rw[hit.1,sizeLine_eq];omega
 obtain⟨vs,hvs,rr⟩:∃vs:List V,Vals vs acc'.toList/\Reps X.K H1 (rngT 0 j.toNat) vs:=by
  refine⟨(List.range j.toNat).map fun (k:Nat)=>V.int (0+k),?_,kXc (by simp) (fun i v hv=> ?_)⟩
  ·have all:∀(l:List Value) (n0:Nat),(∀(i:Nat) v,l[i]? =some v->∃t,v= .int ((0:Int)+((n0+i:Nat):Int)*1) t)->Vals ((List.range' n0 l.length).map fun (k:Nat)=>V.int (0+k)) l:=by
    intro l
    induction l with
    | nil=>intro n0 _;exact .nil
    | cons v l ih=>
     intro n0 hh
     obtain⟨t,ht⟩:=hh 0 v rfl
     rw[List.length_cons,List.range'_succ,List.map_cons]
     refine .cons ⟨t,by rw[ht];simp⟩ (ih (n0+1) fun i w hw=> ?_)
     obtain⟨t',ht'⟩:=hh (i+1) w (by simpa using hw)
     exact⟨t',by rw[ht'];congr 1;omega⟩
   have:=all acc'.toList 0 (fun i v hv=>by
    obtain⟨t,ht⟩:=hit.2 i v (by simpa using hv)
    exact⟨t,by rw[ht];simp⟩)
   rw[List.range_eq_range']
   rw[show acc'.toList.length=j.toNat by simpa using hit.1] at this
   exact this
  ·rw[List.getElem?_map] at hv
   cases e:(List.range j.toNat)[i]? with
   | none=>rw[e] at hv;cases hv
   | some k=>
    rw[e] at hv;cases hv
    have:=List.getElem?_eq_some_iff.mp e
    obtain⟨h1,h2⟩:=this
    simp at h2;rw[<-h2]
 refine⟨.ref _,_,_,e1.trans (.upd (.none hf)),⟨σ,I2.laid (t':=tk) (o:= .lst vs) hk (Nat.le_refl _) ⟨by rw[hvs.length];simpa using hz,acc'.toList,c',hvs,by simpa using hobj⟩,hs1.mono (.upd (.none hf)),hg1.lstNew rr (.none hf)⟩,⟨.ref _,rfl,rfl⟩,q _ (hg1.fresh hf)⟩
def insT (xs:List T) (k:Nat) (y:T):List T:=xs.take k++y::xs.drop k
noncomputable def jV3:T->List T->Gp->VK3->Prop:=fun x as G Q=>∃p xs k y,x= .ref p/\as=[.int k,y]/\G p=some (.lst xs)/\0<=k/\k<=xs.length/\xs.length<sizeLine/\Q .non (gup G p (.lst (insT xs k.toNat y)))
theorem kKd:Mt3 X "list.insert" jV3:=by
 rintro pins s τ G H x as v us Q ⟨σ,I,hs,hg⟩ ⟨a,ra,rv⟩ ⟨bs,rbs,rus⟩ ⟨p,xs,k,y,ex,ea,hp,k0,k1,hz,q⟩
 subst ex;subst ea
 cases (show a= .ref p from ra);cases rv
 obtain⟨b1,b2,rfl,r1,r2⟩:=jZ4 rbs
 cases (show b1= .int k from r1)
 obtain⟨u1,u2,rfl,ru1,ru2⟩:=rus.two
 obtain⟨t,rfl⟩:=ru1
 obtain⟨vs,h1,h2⟩:=hg.lst hp
 obtain⟨z,its,n,r,hl,e⟩:=I.lstM h1
 have hlen:=h2.length
 have hfit:¬ (!Builtin.List.listFitsIndex k)=true:=by
  have h63:=jXw
  rw[fitsIndex_both (by omega) (by omega)]
  exact Bool.false_ne_true
 refine call_meets F.slot_list_insert ⟨_,e,rfl⟩ F.entry_list_insert (F.args_list_insert_3 _ _ _) (AutoSeq1.list_insert_list_int_val_1 p its.toArray n k t u2 hfit (by rw[List.size_toArray];omega)) ⟨e,?_⟩
 have e2:Ext H (upd H p (.lst (vs.take k.toNat++b2::vs.drop k.toNat))):= .upd (.lst h1)
 refine⟨.non,_,_,e2,⟨σ,I.lset (its':=its.take k.toNat++u2::its.drop k.toNat) h1 e ?_ ((r.take _).append (.cons ru2 (r.drop _))) ?_,hs.mono e2,hg.lstNew (xs:=insT xs k.toNat y) ((h2.take _).append ⟨b2,_,rfl,r2,h2.drop _⟩) (.lst h1)⟩,⟨.non,rfl,rfl⟩,q⟩
 ·have hk:¬ k<0:=by omega
  have hm:min k.toNat its.toArray.size=k.toNat:=by rw[List.size_toArray];omega
  simp only[hk,if_false,hm]
  apply Array.ext'
  simp[Array.toList_extract]
  rw[List.take_of_length_le (Nat.le_of_eq (by simp))]
 ·simp only[List.length_append,List.length_cons,List.length_take,List.length_drop]
  omega
def kUf:T->List T->Gp->VK3->Prop:=fun x as G Q=>∃p xs y,x= .ref p/\as=[y]/\G p=some (.lst xs)/\jUu y=true/\xs.all jUu=true/\Q (.int (xs.countP fun z=>eqT z y)) G
theorem jZm {K:PySem.W.Frag} {H:Hp} {y:T} {b:V} (ry:Rep K H y b) (fy:jUu y=true):∀ {xs:List T} {vs:List V} {us:List Value},Reps K H xs vs->Vals vs us->xs.all jUu=true->us.countP (eqU b)=xs.countP fun z=>eqT z y
 | [],_,_,r,q,_=>by cases r;cases q;rfl
 | x::xs,_,_,⟨v,ws,e,r1,r2⟩,q,f=>by
  subst e
  cases q with
  | cons q1 q2=>
   rw[List.all_cons,Bool.and_eq_true] at f
   rw[List.countP_cons,List.countP_cons,jZm ry fy r2 q2 f.2,kVa q1 (jVo r1 f.1),kU6 r1 ry f.1 fy]
theorem qJb:Mt3 X "list.count" kUf:=by
 rintro pins s τ G H x as v us Q ⟨σ,I,hs,hg⟩ ⟨a,ra,rv⟩ ⟨bs,rbs,rus⟩ ⟨p,xs,y,ex,ea,hp,fy,fs,q⟩
 subst ex;subst ea
 cases (show a= .ref p from ra);cases rv
 obtain⟨b,rfl,rb⟩:=jUq rbs
 obtain⟨u,rfl,ru⟩:=rus.one
 obtain⟨vs,h1,h2⟩:=hg.lst hp
 obtain⟨z,its,n,r,hl,e⟩:=I.lstM h1
 have fl:=(jYr rb fy h2 fs).1
 refine call_meets F.slot_list_count ⟨_,e,rfl⟩ F.entry_list_count (F.args_list_count_2 _ _) (SeqAt.list_countAt p its.toArray n none #[] u (eqU b)) ⟨e,fun w hw=>jVn ru (jVo rb fy) r fl w (by simpa using hw),?_⟩
 refine⟨.int _,G,H,.refl H,⟨σ,I.tok _,hs,hg⟩,⟨.int _,rfl,s.toks,?_⟩,q⟩
 rw[<-jZm rb fy h2 r fs]
def kJ0:List T->Option Bool
 | []=>some true
 | .bl b::r=>match kJ0 r with
  | some c=>some (b&&c)
  | none=>none
 | _::_=>none
def rAll:List T->Gp->VK3->Prop:=fun as G Q=>∃p xs b,as=[.ref p]/\G p=some (.lst xs)/\kJ0 xs=some b/\Q (.bl b) G
theorem jZu:∀ {xs:List T} {b:Bool},kJ0 xs=some b->∃bs:List Bool,xs=bs.map T.bl/\b=bs.all (fun x=>x)
 | [],b,h=>by cases h;exact⟨[],rfl,rfl⟩
 | .bl c::r,b,h=>by
  unfold kJ0 at h
  cases e:kJ0 r with
  | none=>rw[e] at h;cases h
  | some d=>
   rw[e] at h;cases h
   obtain⟨bs,h1,h2⟩:=jZu e
   exact⟨c::bs,by rw[h1];rfl,by rw[h2];rfl⟩
 | .non::_,_,h=>by cases h
 | .int _::_,_,h=>by cases h
 | .str _::_,_,h=>by cases h
 | .tup _::_,_,h=>by cases h
 | .scr _::_,_,h=>by cases h
 | .ref _::_,_,h=>by cases h
 | .ty _::_,_,h=>by cases h
theorem kJ8 {K:PySem.W.Frag} {H:Hp}:∀ {bs:List Bool} {vs:List V} {us:List Value},Reps K H (bs.map T.bl) vs->Vals vs us->us=bs.map Value.bool
 | [],_,_,h,q=>by cases h;cases q;rfl
 | n::ns,_,_,⟨v,ws,e,r,rs⟩,q=>by
  subst e;cases (show v= .bl n from r)
  cases q with
  | cons q1 q2=>cases q1;rw[kJ8 rs q2];rfl
theorem jZt:∀(bs:List Bool),bs.all (fun x=>x)=(List.range bs.length).all fun i=>bs.getD i true
 | []=>rfl
 | b::bs=>by
  rw[List.all_cons,jZt bs,List.length_cons,List.range_succ_eq_map,List.all_cons,List.all_map]
  simp[Function.comp_def,List.getD]
theorem qJ0 (hc:X.calm=true):Call3 X (.builtin "all") rAll:=by
 rintro pins s τ G H as us Q ⟨σ,I,hs,hg⟩ ⟨bs',rbs,rus⟩ ⟨p,xs,b,e,hp,hb,q⟩
 subst e
 obtain⟨a,rfl,ra⟩:=jUq rbs
 cases (show a= .ref p from ra)
 obtain⟨u,rfl,ru⟩:=rus.one
 cases ru
 obtain⟨vs,h1,h2⟩:=hg.lst hp
 obtain⟨bs,ex,eb⟩:=jZu hb
 subst ex
 obtain⟨its,rv,pl,hz⟩:=I.list (.of h1)
 have eit:=kJ8 h2 rv
 subst eit
 refine call_all_walk (wpAny_pyIter_list pl.isList ?_)
 have hne:p≠s.heap.objs.size:=by obtain⟨o,n,ho,_⟩:=pl;exact Nat.ne_of_lt (Heap.lt_size ho)
 refine⟨s.heap.objs.size,[s.heap.objs.size,p],[s.heap.objs.size],(bs.map Value.bool).toArray.size,_,_,fun i=>bs.getD i true,rfl,Walks.list (A:=X.A.in1) (show X.A.in1.handled=none from I.ok.hd hc) s.heap.objs.size p hne (bs.map Value.bool).toArray,⟨⟨_,Heap.get?_push_size _ rfl,rfl,rfl⟩,pl.isList.push _⟩,?_,?_⟩
 ·intro i v s' Q' E' hP hQ
  have hP':(bs.map Value.bool)[i]? =some v:=by simpa using hP
  rw[List.getElem?_map] at hP'
  cases e:bs[i]? with
  | none=>rw[e] at hP';cases hP'
  | some c=>
   rw[e] at hP';cases hP'
   have:bs.getD i true=c:=by simp[List.getD,e]
   have hQ':Q' (bs.getD i true) s':=hQ
   rw[this] at hQ'
   exact wpAny_truthy_bool hQ'
 ·intro h' tk hk
  have hk2:∀b o,s.heap.get? b=some o->h'.get? b=some o:=fun b o e=>hk b o (by simpa using Nat.ne_of_lt (Heap.lt_size e)) (Heap.get?_push_of_some _ e)
  refine⟨.bl b,G,H,.refl H,⟨σ,I.kept hk2,hs,hg⟩,⟨.bl b,rfl,?_⟩,q⟩
  rw[eb,jZt]
  simp
  rfl
end
structure Cal (P:Program) (w:World) (K:PySem.W.Frag) (mg:Str->Option Value) (base:Heap) (k:Nat) (x:Str) (ps:List Str) (sp:Sp3):Prop where
 ex:∃f fd,Fn3 P w K mg base k f fd ps sp/\mg x=some (.ref f)/\PySem.W.keepIn K (.ref f)=true/\Binds K fd ps []
 mono:Mono sp
 len:∀xs G Q,sp xs G Q->xs.length=ps.length
theorem jKe {X:Cx} {k:Nat} {ps:List Str} {sp:Sp3} {x:Str} {p pos:Pos} {e:Expr} {es:List Expr} {t:TA3} (C:Cal X.prog X.w X.K X.mg X.base k x ps sp) (hr:Room k X.A) (ha:PA3 X (e::es) t) (hg:Gl X x:=by rfl)
  (hdb:(x == ("__debug__":Str))=false:=by decide) (he:starEach (e::es) X.env=(false,eval e X.env)::starEach es X.env:=by rfl) (hpl:(backTo pos (starEach es X.env)).any (·.1)=false:=by rfl):
  PE3 X (.Call (.Name x p) (e::es) [] pos) (jJw sp t):=by
 intro pins s τ G H Q I h
 obtain⟨f,fd,F,hm,hk,hb⟩:=C.ex
 obtain⟨σ0,I0,hs0,hg0⟩:=id I
 refine wpAny_Call_Name_kw (jU3 I0 hg hm ?_ hdb)
 refine PySem.W.callWith_K (h₀:=X.base) I0.ok.mod.kin hk (thn (ha pos pins s τ G H _ I h) fun us s1 w_=>w_.el fun xs G1 H1 e1 i_ r_ q=>i_.el fun σ I1 hs1 hg1=>r_.el fun as ras rvs=>⟨I1.kIn,?_⟩) he hpl
 refine thn (run_fn (dvs:=[]) (ds:=[]) (E:=E0) (Q:=up X.K H1 Q) F hr hb .nil pass0 I1 rvs ?_) fun u s' z=>(jUb hs1 z).ext e1
 rw[List.append_nil]
 exact⟨by rw[<-ras.length];exact C.len _ _ _ q,xs,G1,ras,hg1,C.mono _ _ _ _ (fun t G' hq v H' e g r=>⟨t,G',e,g,r,hq⟩) q⟩
def jV2:=jYk
theorem kVr {X:Cx}:Call3 X (.type "list") jV2:=c_list
end L3
namespace L3
open PySem PySem.Spec PyProof.Rows
inductive Res where
 | val (t:T) | newL (xs:List T)
def fin3:Res->Gp->VK3->Prop
 | .val t,G,Q=>Q t G
 | .newL xs,G,Q=>∀p,G p=none->Q (.ref p) (gup G p (.lst xs))
theorem Op3.imp {X:L2.Cx} {f:Value->Value->Sem Value} {r r':R3} (h:Op3 X f r) (i:∀x y G Q,r' x y G Q->r x y G Q):Op3 X f r':=fun pins s τ G H x y v u Q I rx ry q=>h pins s τ G H x y v u Q I rx ry (i x y G Q q)
theorem Ix3.imp {X:L2.Cx} {r r':R3} (h:Ix3 X r) (i:∀x y G Q,r' x y G Q->r x y G Q):Ix3 X r':=fun a b pins s τ G H x y v u Q I rx ry q hs=>h a b pins s τ G H x y v u Q I rx ry (i x y G Q q) hs
theorem Set3.imp {X:L2.Cx} {r r':T->T->T->Gp->(Gp->Prop)->Prop} (h:Set3 X r) (i:∀o j v G Q,r' o j v G Q->r o j v G Q):Set3 X r':=fun pins s τ G H o j v a b c Q I ro rj rv q=>h pins s τ G H o j v a b c Q I ro rj rv (i o j v G Q q)
noncomputable def addR (G:Gp):T->T->Option Res
 | .int i,.int j=>some (.val (.int (i+j)))
 | .ref p,.ref q=>match G p,G q with
  | some (.lst xs),some (.lst ys)=>if xs.length+ys.length<=sizeLine then some (.newL (xs++ys)) else none
  | _,_=>none
 | .tup xs,.tup ys=>if xs.length≠0/\xs.length+ys.length<=sizeLine then some (.val (.tup (xs++ys))) else none
 | _,_=>none
def jJz:R3:=fun x y G Q=>∃r,addR G x y=some r/\fin3 r G Q
theorem add_F {x y:T} {G:Gp} {Q:VK3} (h:jJz x y G Q):rAddA x y G Q:=by
 obtain⟨r,hr,q⟩:=h
 unfold addR at hr
 split at hr
 ·cases hr;exact .inl ⟨_,_,rfl,rfl,q⟩
 ·rename_i p q'
  split at hr
  ·rename_i xs ys h1 h2
   split at hr
   ·rename_i hz;cases hr;exact .inr (.inl ⟨p,q',xs,ys,rfl,rfl,h1,h2,hz,q⟩)
   ·cases hr
  ·cases hr
 ·rename_i xs ys
  split at hr
  ·rename_i hz;cases hr;exact .inr (.inr ⟨xs,ys,rfl,rfl,fun z=>hz.1 (by rw[z];rfl),hz.2,q⟩)
  ·cases hr
 ·cases hr
theorem o_addF {X:L2.Cx}:Op3 X (binaryOp .Add) jJz:=o_addA.imp fun _ _ _ _=>add_F
noncomputable def mulR (G:Gp):T->T->Option Res
 | .int i,.int j=>some (.val (.int (i*j)))
 | .ref p,.int n=>match G p with
  | some (.lst xs)=>if n.toNat * xs.length<=sizeLine/\n<2^62/\ -(2^62)<n then some (.newL (List.replicate n.toNat xs).flatten) else none
  | _=>none
 | _,_=>none
def mulC:T->T->Prop
 | .int i,.int j=>L2.CMul i j
 | _,_=>True
def jQy:R3:=fun x y G Q=>∃r,mulR G x y=some r/\mulC x y/\fin3 r G Q
theorem mul_F {x y:T} {G:Gp} {Q:VK3} (h:jQy x y G Q):rMulA x y G Q:=by
 obtain⟨r,hr,c,q⟩:=h
 unfold mulR at hr
 split at hr
 ·cases hr;exact .inl ⟨_,_,rfl,rfl,c,q⟩
 ·rename_i p n
  split at hr
  ·rename_i xs h1
   split at hr
   ·rename_i hz;cases hr;exact .inr ⟨p,xs,n,rfl,rfl,h1,hz.1,hz.2.1,hz.2.2,q⟩
   ·cases hr
  ·cases hr
 ·cases hr
theorem o_mulF {X:L2.Cx}:Op3 X (binaryOp .Mult) jQy:=o_mulA.imp fun _ _ _ _=>mul_F
def ixR (G:Gp) (x y:T):Option T:=match seqT G x with
 | some xs=>match y with
  | .int i=>L2.atI xs i
  | _=>none
 | none=>match dAt G x y with
  | some o=>o
  | none=>none
def rIxF:R3:=fun x y G Q=>∃t,ixR G x y=some t/\Q t G
theorem ix_F' {x y:T} {G:Gp} {Q:VK3} (h:rIxF x y G Q):rIxA x y G Q:=by
 obtain⟨t,ht,q⟩:=h
 unfold ixR at ht
 split at ht
 ·rename_i xs hx
  split at ht
  ·rename_i i;exact .inl ⟨xs,i,t,hx,rfl,ht,q⟩
  ·cases ht
 ·split at ht
  ·rename_i o ho;subst ht;exact .inr ⟨t,ho,q⟩
  ·cases ht
theorem ix_F {X:L2.Cx} (hu:X.A.units+20<cLine):Ix3 X rIxF:=(qJe hu).imp fun _ _ _ _=>ix_F'
noncomputable def setR (G:Gp) (o i v:T):Option Gp:=match o with
 | .ref p=>match G p with
  | some (.lst xs)=>match i with
   | .int k=>match L2.ixN xs.length k with
    | some j=>some (gup G p (.lst (xs.set j v)))
    | none=>none
   | _=>none
  | some (.dct kvs)=>match i with
   | .tup ys=>match jUs ys with
    | some ks=>if kvs.length<sizeLine then some (gup G p (.dct (putT kvs ks v))) else none
    | none=>none
   | _=>none
  | some (.dck kvs)=>match jV7 i with
   | some k=>if kvs.length<sizeLine then some (gup G p (.dck (putT kvs k v))) else none
   | none=>none
  | some (.fdc _)=>none
  | some (.ins _ _)=>none
  | some (.exc _)=>none
  | none=>none
 | _=>none
def jQk:T->T->T->Gp->(Gp->Prop)->Prop:=fun o i v G Q=>∃G',setR G o i v=some G'/\Q G'
theorem set_F' {o i v:T} {G:Gp} {Q:Gp->Prop} (h:jQk o i v G Q):rSetA o i v G Q:=by
 obtain⟨G',hr,q⟩:=h
 unfold setR at hr
 split at hr
 ·rename_i p
  split at hr
  ·rename_i xs h1
   split at hr
   ·rename_i k
    split at hr
    ·rename_i j hj;cases hr;exact .inl ⟨p,xs,k,j,rfl,rfl,h1,hj,q⟩
    ·cases hr
   ·cases hr
  ·rename_i kvs h1
   split at hr
   ·rename_i ys
    split at hr
    ·rename_i ks hk
     split at hr
     ·rename_i hz;cases hr;exact .inr (.inl ⟨p,ys,ks,kvs,rfl,rfl,hk,h1,hz,q⟩)
     ·cases hr
    ·cases hr
   ·cases hr
  ·rename_i kvs h1
   split at hr
   ·rename_i k hk
    split at hr
    ·rename_i hz;cases hr;exact .inr (.inr ⟨p,k,kvs,rfl,hk,h1,hz,q⟩)
    ·cases hr
   ·cases hr
  ·cases hr
  ·cases hr
  ·cases hr
  ·cases hr
 ·cases hr
theorem s_F {X:L2.Cx} (hu:X.A.units+20<cLine):Set3 X jQk:=(s_any hu).imp fun _ _ _ _ _=>set_F'
noncomputable def rLeF:R3:=fun x y G Q=>∃b,(match x,y with
 | .int i,.int j=>some (decide (i<=j))
 | .tup [.int a,.int b],.tup [.int c,.int d]=>some (HT.lexLe [a,b] [c,d])
 | _,_=>none)=some b/\Q (.bl b) G
theorem le_F' {x y:T} {G:Gp} {Q:VK3} (h:rLeF x y G Q):rLeA x y G Q:=by
 obtain⟨b,hb,q⟩:=h
 split at hb
 ·cases hb;exact .inl ⟨_,_,rfl,rfl,q⟩
 ·cases hb;exact .inr ⟨_,_,rfl,rfl,q⟩
 ·cases hb
theorem kZ8 {X:L2.Cx} (hu:X.A.units+20<cLine):Op3 X (compareOp .LtE) rLeF:=(o_leA hu).imp fun _ _ _ _=>le_F'
noncomputable def inR (G:Gp) (x y:T):Option Bool:=match seqT G y with
 | some xs=>if jUu x=true/\xs.all jUu=true then some (inT x xs) else none
 | none=>match dAt G y x with
  | some o=>some o.isSome
  | none=>none
def jQ6:R3:=fun x y G Q=>∃b,inR G x y=some b/\Q (.bl (!b)) G
theorem kXu {x y:T} {G:Gp} {Q:VK3} (h:jQ6 x y G Q):kUc x y G Q:=by
 obtain⟨b,hb,q⟩:=h
 unfold inR at hb
 split at hb
 ·rename_i xs hx
  split at hb
  ·rename_i hc;cases hb;exact .inl ⟨xs,hx,hc.1,hc.2,q⟩
  ·cases hb
 ·split at hb
  ·rename_i o ho;cases hb;exact .inr ⟨o,ho,q⟩
  ·cases hb
theorem jZe {X:L2.Cx} (hu:X.A.units+20<cLine):Op3 X (compareOp .NotIn) jQ6:=(kZ6 hu).imp fun _ _ _ _=>kXu
end L3
namespace L2
open PySem PySem.Spec PyProof.Rows
def Its (lo c:Int) (n:Nat):It:=⟨fun i _=>i<n,fun i H x H'=>H'=H/\x= .int (lo+i*c),fun i _=>n<=i⟩
theorem jZz {P:Program} {w:World} {K:PySem.W.Frag} {tg:Expr} (it:Addr) (lo c:Int) (n:Nat):Turn P w K tg (Its lo c n) [it] it (fun i h=>IsRangeIter h it (lo+(i:Nat)*c) ((n:Int)-(i:Nat)) c) where
 mem:=by simp
 obj:=fun i h st b hb=>by
  have e:b=it:=by simpa using hb
  subst e
  exact⟨_,st,fun v z=>by
   have z':Data.fields _=Data.cell v:=z
   cases z'⟩
 keep:=fun i h h' st k=>k it (by simp) _ st
 item:=by
  intro X hP hw hK hc i pins s σ H E I hf st hg
  subst hP hw hK
  obtain⟨f0,f1,f2,f3,f4,f5⟩:=hf it (by simp)
  have W:=Walks.range (prog:=X.prog) (w:=X.w) (I.ok.hd hc) it lo c n
  refine W.item i s _ _ hg st fun v h' tk hv st' kk=> ?_
  obtain⟨t,rfl⟩:=hv
  have I1:Inv X pins σ H {s with heap:=h',toks:=tk}:=I.turned (fun b o hb e=>kk b o (by simpa using hb) e) f0 f1 f3 f4 f5
  exact⟨_,rfl,kYd (s:={s with heap:=h',toks:=tk}) (n:="range_iterator") st' rfl rfl (by decide) ⟨.int (lo+i*c),H,I1,⟨t,rfl⟩,⟨rfl,rfl⟩,st',fun b hb=>(hf b hb).1⟩⟩
 done:=by
  intro X hP hw hK hc i pins s σ H E I hf st hg
  subst hP hw hK
  obtain⟨f0,f1,f2,f3,f4,f5⟩:=hf it (by simp)
  exact wpAny_pyNext_range_end (I.ok.hd hc) st (by have:n<=i:=hg;omega) fun h' eb=>⟨rfl,I.turned (t':=s.toks) (fun b o hb e=>eb b o hb e) f0 f1 f3 f4 f5⟩
 self:=fun _ _ _ _ _ st h=>wpAny_pyIter_rangeiter st h
section
variable {X:Cx} {tg:Expr}
theorem kUb {pins:List (Addr×Obj)} {σ:St} {H:Hp} {s:Shared} {R:It->Hp->Prop} {E:Value->Shared->Prop} {lo hi c:Int} {t u v:Tok} {tk:Nat} (I:Inv X pins σ H s) (hsm:Builtin.Range.small lo hi c=true)
  (q:R (Its lo c (Builtin.Range.rangeSize lo hi c).toNat) H):wpAny (model X.prog X.w) X.A (pyIter (.ref s.heap.objs.size)) (PIE X pins σ tg R) E {s with heap:=s.heap.push {cls:= .type "range",data:= .fields #[.int lo t,.int hi u,.int c v]},toks:=tk}:=by
 refine wpAny_pyIter_range (IsRange.new ..) hsm ?_
 have I1:Inv X pins σ H {s with heap:=s.heap.push {cls:= .type "range",data:= .fields #[.int lo t,.int hi u,.int c v]},toks:=tk}:=I.kept fun b o e=>Heap.get?_push_of_some _ e
 refine⟨(s.heap.push {cls:= .type "range",data:= .fields #[.int lo t,.int hi u,.int c v]}).objs.size,[(s.heap.push {cls:= .type "range",data:= .fields #[.int lo t,.int hi u,.int c v]}).objs.size],_,_,H,rfl,
  I1.kept (t':=tk) fun b o e=>Heap.get?_push_of_some _ e,jZz _ lo c (Builtin.Range.rangeSize lo hi c).toNat,?_,fun b hb=> ?_,q⟩
 ·show IsRangeIter _ _ (lo+((0:Nat):Int)*c) ((((Builtin.Range.rangeSize lo hi c).toNat:Nat):Int)-((0:Nat):Int)) c
  rw[<-rangeSize_toNat,show lo+((0:Nat):Int)*c=lo by simp,show Builtin.Range.rangeSize lo hi c-((0:Nat):Int)=Builtin.Range.rangeSize lo hi c by simp]
  exact Heap.get?_push_size _ rfl
 ·have e:b=(s.heap.push {cls:= .type "range",data:= .fields #[.int lo t,.int hi u,.int c v]}).objs.size:=by simpa using hb
  subst e
  exact I1.fpOk (Nat.le_refl _) (I1.hok.fresh (Nat.le_refl _))
end
end L2
namespace L3
open PySem PySem.Spec PyProof.Rows L2
def rngS (lo c:Int) (n:Nat):List T:=(List.range n).map fun (k:Nat)=>T.int (lo+k*c)
noncomputable def kYa (ta:TA3):TI3:=fun τ G R=>ta τ G fun vs G1=>∃i j c:Int,vs=[.int i,.int j,.int c]/\(c≠0/\c.natAbs<1073741824/\Builtin.Range.small i j c=true)/\R (rngS i c (Builtin.Range.rangeSize i j c).toNat) (fun _=>True) G1
theorem kQg {K:PySem.W.Frag} {H:Hp} (lo c:Int) (n:Nat):qJ7 K H (Its lo c n) (rngS lo c n) fun _=>True:=by
 intro i H' G e g _
 have hl:(rngS lo c n).length=n:=by simp[rngS]
 refine⟨fun h=>by rw[hl] at h;exact h,fun h=>by rw[hl] at h;exact h,fun hi x H2 ⟨eH,ex⟩=> ?_⟩
 rw[hl] at hi
 subst eH;subst ex
 exact⟨.refl _,g,.int (lo+i*c),by simp[rngS,hi],rfl⟩
theorem kX8 {X:Cx} {tg:Expr} {pos:Pos} {a b c:Expr} {ta:TA3} {p:Pos} (hg:Gl X "range") (hm:X.mg "range"=none) (ha:PA3 X [a,b,c] ta) (hs:starEach [a,b,c] X.env=[(false,eval a X.env),(false,eval b X.env),(false,eval c X.env)]:=by rfl) (hs2:starEach [b,c] X.env=[(false,eval b X.env),(false,eval c X.env)]:=by rfl):
  PI3 X tg (.Call (.Name "range" p) [a,b,c] [] pos) (kYa ta):=by
 intro pins s τ G H R I h
 obtain⟨σ,I0,hs0,hg0⟩:=id I
 refine Call_ (jK1 I0 hg hm boot_range (PyProof.Rows.callWith_type1 (thn (ha pos pins s τ G H _ I h) fun us s1 w_=>w_.el fun xs G1 H1 e1 i_ r_ q1=>i_.el fun σ I1 hs1 hg1=>r_.el fun as ras rvs=> ?_) (by rw[hs,hs2]) (by rw[hs2];rfl)))
 obtain⟨i,j,k,e,⟨q1,q2,q3⟩,q⟩:=q1
 subst e
 obtain⟨v,as1,rfl,rv,ras1⟩:=ras
 obtain⟨w,z,rfl,rw',rz⟩:=jZ4 ras1
 cases (show v= .int i from rv);cases (show w= .int j from rw');cases (show z= .int k from rz)
 cases rvs with
 | cons ru rvs=>
  obtain⟨u',u'',rfl,ru',ru''⟩:=Vals.two rvs
  obtain⟨t,rfl⟩:=ru
  obtain⟨t',rfl⟩:=ru'
  obtain⟨t'',rfl⟩:=ru''
  refine call_range_3 q1 (thn (kUb (tg:=tg) (R:=fun J H'=>J=Its i k (Builtin.Range.rangeSize i j k).toNat/\H'=H1) I1 q3 ⟨rfl,rfl⟩) fun itv s2 z=> ?_) (Or.inl (PyProof.noPylong_small q2))
  obtain⟨it,fp,tn,J,H',ei,I2,T0,st,fk,eJ,eH⟩:=z
  subst eJ;subst eH
  exact⟨it,fp,tn,_,rngS i k (Builtin.Range.rangeSize i j k).toNat,fun _=>True,G1,H',ei,e1,⟨σ,I2,hs1,hg1⟩,T0,st,fk,kQg i k _,q⟩
noncomputable def Draw (P:Program) (w:World) (A:Around) (i:Addr) (r:Option Value) (S S':Heap->Prop):Prop:=
 ∀(s:Shared) (Q E:Value->Shared->Prop),S s.heap->
  (∀x g,r=some x->S' g->Heap.SameBut i s.heap g->Q x {s with heap:=g})->
  (∀g e o,r=none->Heap.ExtBut i s.heap g->g.get? e=some o->o.cls= .type "StopIteration"->E (.ref e) {s with heap:=g})->
  wpAny (model P w) A (Builtin.SmallTypes.nextOf (.ref i)) Q E s
def kQk (i t:Addr) (k:Nat) (xs:Array Value) (h:Heap):Prop:=h.IsTupleIter i t k/\h.IsTuple t xs
theorem jX8 {P:Program} {w:World} {A:Around} {i t:Addr} {k:Nat} {xs:Array Value} (hh:A.handled=none) (ne:t≠i):Draw P w A i xs[k]? (kQk i t k xs) (kQk i t (k+1) xs):=by
 rintro s Q E ⟨⟨o,ho,hc,hd⟩,q,hq,hqc,n,hn⟩ item stop
 have ty:s.TypeIs (.ref i) "tuple_iterator":=⟨o,ho,hc⟩
 refine wpAny_bind (wpAny_callSpecial?_slot (name:=Str.ofString "__next__") ty F.slot_tuple_iterator_next (wpAny_call_entry F.slot_tuple_iterator_next ty F.entry_tuple_iterator_next ?_ (F.args_tuple_iterator_next_1 _)))
 refine (show wpAny _ _ (field (.ref i) 0 >>= _) _ _ s from wpAny_bind (wpAny_field ho hd (x:= .ref t) rfl ?_))
 refine (show wpAny _ _ (if (Value.ref t == Value.none)=true then _ else field (.ref i) 1 >>= _) _ _ s from ?_)
 rw[if_neg (by exact Bool.false_ne_true)]
 refine wpAny_bind (wpAny_field ho hd (x:= .int k 0) rfl (show wpAny _ _ (seqItems? (.ref t) >>= _) _ _ s from wpAny_bind (wpAny_seqItems hq hn ?_)))
 cases hx:xs[k]? with
 | some x=>
  simp only[hx,Int.toNat_natCast]
  have up:kQk i t (k+1) xs (s.heap.update i (Obj.mapFields (·.setIfInBounds 1 (rawInt ((k:Int)+1))))):=by
   refine⟨⟨_,Heap.get?_update_self _ ho (Obj.isFreed_of_fields (Obj.data_mapFields hd _)),(Obj.cls_mapFields ..).trans hc,?_⟩,q,(Heap.SameBut.update ..).extBut t q ne hq,hqc,n,hn⟩
   rw[Obj.data_mapFields hd];simp[rawInt]
  exact wpAny_bind (wpAny_setField ho hd (by simp) (wpAny_pure ⟨x,rfl,wpAny_pure (item x _ hx up (Heap.SameBut.update ..))⟩))
 | none=>
  simp only[hx,Int.toNat_natCast]
  refine wpAny_bind (wpAny_rule (wpAny_bind (wpAny_setField ho hd (by simp) (show wpAny _ _ (newExc (.type "StopIteration") [] >>= _) _ _ _ from wpAny_bind ?_))))
  simp only[newExc,newTuple,raiseNew]
  refine wpAny_bind (wpAny_newObj_type (wpAny_bind (m:=firstArgMember _ _) (wpAny_of_eq (a:=Value.none) (by first | rfl | (simp only[firstArgMember];rfl)) (wpAny_newObj_type ?_ (by size_fits)))) (by size_fits))
  refine wpAny_bind (wpAny_handled ?_);rw[show A.in1.handled=none from hh]
  exact wpAny_bind (wpAny_pure (wpAny_throw (stop _ _ _ hx (((Heap.SameBut.update ..).extBut.push _).push _) (Heap.get?_push_size _ rfl) rfl)))
def itOf (t:Addr):Obj:={cls:= .type "tuple_iterator",data:= .fields #[.ref t,.int 0 0]}
theorem zapart {n a b:Nat} (ha:a<n) (hb:b<n):ZipApart (n+4) (n+2) (n+3) n (n+1) a b:=by
 constructor<;>(show @Ne Nat _ _;omega)
def zipT (xs ys:List T):List T:=(xs.zip ys).map fun p=>T.tup [p.1,p.2]
end L3
namespace L3
open PySem
theorem atN {α:Type} {xs:List α} {n:Nat}:L2.atI xs (n:Int)=xs[n]? :=by
 unfold L2.atI L2.ixN
 by_cases h:n<xs.length
 ·simp[h]
 ·simp[h]
theorem at0 {α:Type} {x:α} {xs:List α}:L2.atI (x::xs) 0=some x:=(atN (n:=0)).trans rfl
theorem at1 {α:Type} {x y:α} {xs:List α}:L2.atI (x::y::xs) 1=some y:=(atN (n:=1)).trans rfl
theorem at2 {α:Type} {x y z:α} {xs:List α}:L2.atI (x::y::z::xs) 2=some z:=(atN (n:=2)).trans rfl
theorem atZ {α:Type} {xs:List α} {i:Int} (h:0<=i):L2.atI xs i=xs[i.toNat]? :=by
 obtain⟨n,rfl⟩:=Int.eq_ofNat_of_zero_le h
 simpa using atN
theorem qJ1 {α:Type} {xs:List α} {y:α}:L2.atI (xs++[y]) (-1)=some y:=by
 unfold L2.atI L2.ixN
 have:¬ (0:Int)<= -1:=by decide
 simp only[this,if_false]
 rw[if_pos (by simp;omega)]
 have e:(-1+((xs++[y]).length:Int)).toNat=xs.length:=by simp;omega
 rw[e];simp
theorem jXs {n k:Nat} (h:k<n):L2.ixN n (k:Int)=some k:=by simp[L2.ixN,h]
theorem ix0 {n:Nat}:L2.ixN (n+1) 0=some 0:=jXs (k:=0) (by omega)
theorem ix1 {n:Nat}:L2.ixN (n+2) 1=some 1:=jXs (k:=1) (by omega)
theorem ix2 {n:Nat}:L2.ixN (n+3) 2=some 2:=jXs (k:=2) (by omega)
theorem ix30:L2.ixN 3 0=some 0:=ix0
theorem ix31:L2.ixN 3 1=some 1:=ix1
theorem ix32:L2.ixN 3 2=some 2:=ix2
theorem kYq {G:Gp} {i j:Int}:addR G (.int i) (.int j)=some (.val (.int (i+j))):=rfl
theorem kXv {G:Gp} {i j:Int}:mulR G (.int i) (.int j)=some (.val (.int (i*j))):=rfl
theorem kXx {i j:Int}:mulC (.int i) (.int j)=L2.CMul i j:=rfl
theorem kXw {p:Addr} {j:Int}:mulC (.ref p) (.int j)=True:=rfl
theorem qJq {t:T} {G:Gp} {Q:VK3}:fin3 (.val t) G Q=Q t G:=rfl
theorem kU7 {xs:List T} {G:Gp} {Q:VK3}:fin3 (.newL xs) G Q=∀p,G p=none->Q (.ref p) (gup G p (.lst xs)):=rfl
theorem qJf {G:Gp} {xs:List T} {i:Int}:ixR G (.tup xs) (.int i)=L2.atI xs i:=rfl
theorem qJg {G:Gp} {xs:List T} {i:Int}:ixR G (.scr xs) (.int i)=L2.atI xs i:=rfl
theorem jKd {G:Gp} {p:Addr} {xs:List T} {i:Int} (h:G p=some (.lst xs)):ixR G (.ref p) (.int i)=L2.atI xs i:=by simp only[ixR,seqT,h,asL]
theorem jQ5 {G:Gp} {p:Addr} {xs:List T} {k:Int} {j:Nat} {v:T} (h:G p=some (.lst xs)) (hj:L2.ixN xs.length k=some j):setR G (.ref p) (.int k) v=some (gup G p (.lst (xs.set j v))):=by simp only[setR,h,hj]
theorem kV9 {G:Gp} {xs:List T}:seqT G (.tup xs)=some xs:=rfl
theorem jJk {G:Gp} {p:Addr} {xs:List T} (h:G p=some (.lst xs)):seqT G (.ref p)=some xs:=by simp only[seqT,h,asL]
theorem kY0 {G:Gp} {p:Addr} {xs:List T} {k:Int} {v:T} (h:G p=some (.lst xs)):setR G (.ref p) (.int k) v=(L2.ixN xs.length k).map fun j=>gup G p (.lst (xs.set j v)):=by
 cases e:L2.ixN xs.length k with
 | none=>simp only[setR,h,e,Option.map_none]
 | some j=>simp only[setR,h,e,Option.map_some]
theorem kV6 {G:Gp} {p:Addr} {xs:List T} {k:Int} {v:T}:setR (gup G p (.lst xs)) (.ref p) (.int k) v=(L2.ixN xs.length k).map fun j=>gup G p (.lst (xs.set j v)):=by
 rw[kY0 jJh];simp only[kU3]
theorem qJh {G:Gp} {p:Addr} {xs:List T} {i:Int}:ixR (gup G p (.lst xs)) (.ref p) (.int i)=L2.atI xs i:=jKd jJh
theorem kXa {G:Gp} {p:Addr} {xs:List T}:seqT (gup G p (.lst xs)) (.ref p)=some xs:=jJk jJh
noncomputable def qJ8 (g:TG3) (tb:TS3) (D:Ends3) (τ:St3) (xs:List T) (stay:Gp->Prop) (G:Gp):Prop:=∃P:Nat->St3->Gp->Prop,P 0 τ G/\(∀i τ G,i<=xs.length->P i τ G->stay G)/\
 (∀i x τ G,xs[i]? =some x->P i τ G->g x τ G fun τ2 G2=>tb {D with nx:=P (i+1),ct:=P (i+1),bk:=D.nx} τ2 G2)/\∀ τ G,P xs.length τ G->D.nx τ G
theorem jJv {wi:TI3} {g:TG3} {tb:TS3} {D:Ends3} {τ:St3} {G:Gp}:tFor wi g tb D τ G=wi τ G fun xs stay G1=>qJ8 g tb D τ xs stay G1:=rfl
def jZv (mask:List Bool) (g:TG3) (tif:TT3) (te:TE3) (τ:St3) (xs:List T) (stay:Gp->Prop) (G:Gp) (Q:VK3):Prop:=jZ3 mask g tif te τ xs stay G Q
theorem kV2 {mask:List Bool} {wi:TI3} {g:TG3} {tif:TT3} {te:TE3} {τ:St3} {G:Gp} {Q:VK3}:jKq mask wi g tif te τ G Q=wi τ G fun xs stay G1=>jZv mask g tif te τ xs stay G1 Q:=rfl
def Sub (G G':Gp):Prop:=∀c o,G c=some o->G' c=some o
theorem Sub.refl (G:Gp):Sub G G:=fun _ _ h=>h
theorem Sub.trans {G G1 G2:Gp} (h:Sub G G1) (h':Sub G1 G2):Sub G G2:=fun c o e=>h' c o (h c o e)
theorem Sub.new {p:Addr} {G:Gp} {o:GO} (hp:G p=none):Sub G (gup G p o):=fun c u e=>by rw[jJn];exact e;rintro rfl;rw[hp] at e;cases e
theorem Sub.over {p:Addr} {G G':Gp} {o:GO} (h:Sub G G') (hp:G p=none):Sub G (gup G' p o):=fun c u e=>by rw[jJn];exact h c u e;rintro rfl;rw[hp] at e;cases e
theorem Sub.none {G G':Gp} {p:Addr} (h:Sub G G') (hp:G' p=none):G p=none:=by
 cases e:G p with
 | none=>rfl
 | some o=>rw[h p o e] at hp;cases hp
theorem jKk {G:Gp} {a p:Addr} {o:GO} (h:gup G a o p=none):p≠a/\G p=none:=by
 by_cases e:p=a
 ·subst e;rw[jJh] at h;cases h
 ·rw[jJn e] at h;exact⟨e,h⟩
theorem jJe {G:Gp} {a p:Addr} {o:GO} (h:G a=some o) (hp:G p=none):a≠p:=by rintro rfl;rw[h] at hp;cases hp
theorem jJ3 {α β:Type} {enc:α->β} {es:List α} {i:Nat} {x:β} (h:(es.map enc)[i]? =some x):∃e,es[i]? =some e/\x=enc e:=by
 rw[List.getElem?_map] at h
 cases e1:es[i]? with
 | none=>rw[e1] at h;cases h
 | some e=>rw[e1] at h;exact⟨e,rfl,(Option.some.inj h).symm⟩
theorem jYu {α:Type} {mask:List Bool} {g:TG3} {tif:TT3} {te:TE3} {τ:St3} {es:List α} {enc:α->T} {stay:Gp->Prop} {G:Gp} {Q:VK3} (f:α->Option T) (hz:es.length<=sizeLine) (hst:∀G',Sub G G'->stay G')
  (h:∀(i:Nat) e,es[i]? =some e->∀G' (K:T->Gp->Prop) (K0:Gp->Prop),Sub G G'->(∀y G4,f e=some y->Sub G' G4->K y G4)->(f e=none->∀G4,Sub G' G4->K0 G4)->g (enc e) (msk mask τ) G' fun τ2 G2=>tif τ2 G2 fun b G3=>if b=true then te τ2 G3 K else K0 G3)
  (hq:∀D G',G D=none->G' D=some (.lst (es.filterMap f))->Sub G G'->Q (.ref D) G'):jZv mask g tif te τ (es.map enc) stay G Q:=by
 intro D hD
 refine⟨fun i acc G'=>acc=(es.take i).filterMap f/\G' D=some (.lst acc)/\Sub G G',⟨by simp,jJh,.new hD⟩,?_,?_,?_⟩
 ·rintro i acc G' hi ⟨ea,eg,hs⟩
  exact⟨hst G' hs,eg⟩
 ·rintro i x acc G' hx0 ⟨ea,eg,hs⟩
  obtain⟨e,hx,rfl⟩:=jJ3 hx0
  have hi:i<es.length:=(List.getElem?_eq_some_iff.mp hx).1
  have tk:es.take (i+1)=es.take i++[e]:=by rw[List.take_succ,hx];rfl
  have hlen:acc.length<sizeLine:=by
   have h1:acc.length<=(es.take i).length:=by rw[ea];exact List.length_filterMap_le _ _
   rw[List.length_take] at h1;omega
  refine h i e hx G' _ _ hs (fun y G4 hy h4=>⟨h4 D _ eg,hlen,?_,jJh,(hs.trans h4).over hD⟩) fun hn G4 h4=>⟨?_,h4 D _ eg,hs.trans h4⟩
  ·rw[tk,List.filterMap_append,<-ea];simp[hy]
  ·rw[tk,List.filterMap_append,<-ea];simp[hn]
 ·rintro acc G' ⟨ea,eg,hs⟩
  rw[List.length_map,List.take_length] at ea
  rw[ea] at eg
  exact hq D G' hD eg hs
theorem jKl {α:Type} {mask:List Bool} {g:TG3} {tif:TT3} {te:TE3} {τ:St3} {es:List α} {enc:α->T} {stay:Gp->Prop} {G:Gp} {Q:VK3} (f:α->T) (hz:es.length<=sizeLine) (hst:∀G',Sub G G'->stay G')
  (h:∀(i:Nat) e,es[i]? =some e->∀G' (K:T->Gp->Prop) (K0:Gp->Prop),Sub G G'->(∀G4,Sub G' G4->K (f e) G4)->g (enc e) (msk mask τ) G' fun τ2 G2=>tif τ2 G2 fun b G3=>if b=true then te τ2 G3 K else K0 G3)
  (hq:∀D G',G D=none->G' D=some (.lst (es.map f))->Sub G G'->Q (.ref D) G'):jZv mask g tif te τ (es.map enc) stay G Q:=by
 refine jYu (fun e=>some (f e)) hz hst (fun i e he G' K K0 hs hk _=>h i e he G' K K0 hs fun G4 h4=>hk _ G4 rfl h4) fun D G' hD h1 h2=>hq D G' hD ?_ h2
 rw[h1];congr 2;induction es with
 | nil=>rfl
 | cons a as ih=>simp
theorem jKo {G:Gp} {p:Addr} {xs:List T} (h:G p=some (.lst xs)):tyT G "list" (.ref p)=True:=by simp[tyT,h]
theorem kZm {G:Gp} {p:Addr} {xs:List T}:tyT (gup G p (.lst xs)) "list" (.ref p)=True:=jKo jJh
theorem jU8 {α:Type} {mask:List Bool} {g:TG3} {tif:TT3} {te:TE3} {τ:St3} {es:List α} {enc:α->T} {stay:Gp->Prop} {G:Gp} {Q:VK3} (f:α->List T) (hz:es.length<=sizeLine) (hst:∀G',Sub G G'->stay G')
  (h:∀(i:Nat) e,es[i]? =some e->∀G' (K:T->Gp->Prop) (K0:Gp->Prop),Sub G G'->(∀p G4,G' p=none->G4 p=some (.lst (f e))->Sub G' G4->K (.ref p) G4)->g (enc e) (msk mask τ) G' fun τ2 G2=>tif τ2 G2 fun b G3=>if b=true then te τ2 G3 K else K0 G3)
  (hq:∀D rs G',G D=none->G' D=some (.lst (rs.map T.ref))->Sub G G'->rs.length=es.length->(D::rs).Nodup->(∀(i:Nat) (r:Addr) (e:α),rs[i]? =some r->es[i]? =some e->G r=none/\G' r=some (.lst (f e)))->Q (.ref D) G'):jZv mask g tif te τ (es.map enc) stay G Q:=by
 intro D hD
 refine⟨fun i acc G'=>∃rs:List Addr,acc=rs.map T.ref/\rs.length=i/\G' D=some (.lst acc)/\Sub G G'/\(D::rs).Nodup/\(∀(i:Nat) (r:Addr) (e:α),rs[i]? =some r->es[i]? =some e->G r=none/\G' r=some (.lst (f e))),⟨[],rfl,rfl,jJh,.new hD,by simp,by simp⟩,?_,?_,?_⟩
 ·rintro i acc G' hi ⟨rs,ea,hl,eg,hs,hn,hr⟩
  exact⟨hst G' hs,eg⟩
 ·rintro i x acc G' hx0 ⟨rs,ea,hl,eg,hs,hn,hr⟩
  obtain⟨e,hx,rfl⟩:=jJ3 hx0
  have hi:i<es.length:=(List.getElem?_eq_some_iff.mp hx).1
  have hlen:acc.length<sizeLine:=by rw[ea,List.length_map];omega
  refine h i e hx G' _ _ hs fun p G4 hp h4 s4=>⟨s4 D _ eg,hlen,rs++[p],by simp[ea],by simp[hl],jJh,(hs.trans s4).over hD,?_,?_⟩
  ·have hDp:D≠p:=jJe eg hp
   have hpr:p∉rs:=by
    intro hm
    obtain⟨j,hj⟩:∃j:Nat,_:=List.getElem?_of_mem hm
    have hjl:j<rs.length:=(List.getElem?_eq_some_iff.mp hj).1
    have:=(hr j p es[j] hj (List.getElem?_eq_getElem (by omega))).2
    rw[hp] at this;cases this
   rw[List.nodup_cons] at hn
   simp only[List.nodup_cons,List.mem_append,List.mem_singleton,not_or,List.nodup_append,List.not_mem_nil,not_false_eq_true,List.nodup_nil,and_true]
   exact⟨⟨hn.1,hDp⟩,hn.2,trivial,fun a ha b hb=>by subst hb;rintro rfl;exact hpr ha⟩
  ·intro j r e' hj he'
   have hjl:j<rs.length+1:=by have:=(List.getElem?_eq_some_iff.mp hj).1;simpa using this
   by_cases hjr:j<rs.length
   ·rw[List.getElem?_append_left hjr] at hj
    obtain⟨q1,q2⟩:=hr j r e' hj he'
    have:r≠D:=by rintro rfl;exact (List.nodup_cons.mp hn).1 (List.mem_of_getElem? hj)
    exact⟨q1,by rw[jJn this];exact s4 _ _ q2⟩
   ·have hj2:j=rs.length:=by omega
    subst hj2
    rw[List.getElem?_append_right (Nat.le_refl _)] at hj
    simp at hj
    subst hj
    rw[hl,hx] at he';cases he'
    exact⟨hs.none hp,by rw[jJn (jJe eg hp).symm];exact h4⟩
 ·rintro acc G' ⟨rs,ea,hl,eg,hs,hn,hr⟩
  rw[ea] at eg
  exact hq D rs G' hD eg hs (by simpa using hl) hn hr
end L3
namespace L3
open PySem PySem.Spec PyProof.Rows L2
section
variable {X:Cx}
end
theorem kVi {P:Program} {w:World} {A:Around} (hh:A.handled=none) (it t:Addr) (ne:t≠it) (xs:Array Value):Draws P w A it [it,t] xs.size (fun i v=>xs[i]? =some v) (fun i h=>kQk it t i xs h) where
 live:=fun _ _ ⟨⟨o,ho,_⟩,_⟩=>⟨o,ho⟩
 frame:=fun _ _ _ ⟨⟨o,ho,r⟩,⟨q,hq,r'⟩⟩ k=>⟨⟨o,k it (by simp) o ho,r⟩,⟨q,k t (by simp) q hq,r'⟩⟩
 item:=fun i s Q E hi st hQ=>jX8 hh ne s Q E st (fun x g e s' b=>hQ x g s.toks e s' b) fun _ _ _ e=>by rw[Array.getElem?_eq_getElem hi] at e;cases e
 done:=fun s Q E st hE=>jX8 hh ne s Q E st (fun x _ e=>by rw[Array.getElem?_eq_none (Nat.le_refl _)] at e;cases e) fun g e o _ b he hc=>hE g e b ⟨o,he,hc⟩
def kKo (i:Addr):Obj:={cls:= .type "enumerate",data:= .fields #[.none,.bool false,.ref i,rawInt 0,.none,.none]}
theorem kYh (t:Addr) (xs:Array Value):
  Meets (Builtin.«enumerate.__new__» ⟨[.type "enumerate",.ref t],[]⟩) fun _ R s=>s.heap.IsTuple t xs/\R (.ok (.ret (.ref (s.heap.push (itOf t)).objs.size))) {s with heap:=(s.heap.push (itOf t)).push (kKo s.heap.objs.size)}:=by
 refine .of_wp fun P w A R s ⟨ht,h⟩=> ?_
 obtain⟨g,a1,a2,a3,a4⟩:=s
 have sb:=sub_enumerate
 have m1:Heap.IsTuple (Shared.heap ⟨g,a1,a2,a3,a4⟩) t xs:=ht
 obtain⟨⟨c,dct,dt,sl⟩,hl,hc,n,hd⟩:=id ht
 replace hc:c= .type "tuple":=hc
 replace hd:dt= .seq xs n:=hd
 subst hc hd
 wp_walk using AutoSeq1.wpAny_loadPart' hl
 refine wpAny_stack_any (fun stk=>wpAny_pure ?_)
 split
 ·rename_i k _ _ _ _ _
  cases (k == Value.type "enumerate")<;>(wp_walk using AutoSeq1.wpAny_loadPart' hl,wpAny_pyIter_tuple m1;exact⟨_,rfl,h⟩)
 ·wp_walk using AutoSeq1.wpAny_loadPart' hl,wpAny_pyIter_tuple m1;exact⟨_,rfl,h⟩
theorem kVe {P:Program} {w:World} {A:Around} {s:Shared} {t:Addr} {xs:Array Value} {Q E:Value->Shared->Prop} (ht:s.heap.IsTuple t xs)
  (h:∀g n,n=s.heap.objs.size->IsEnum g (n+1) n 0 .none->kQk n t 0 xs g->(∀c o,s.heap.get? c=some o->g.get? c=some o)->Q (.ref (n+1)) {s with heap:=g}):wpAny (model P w) A (call (.type "enumerate") [.ref t]) Q E s:=by
 refine callType_new F.called_enumerate (by decide) (F.typeCall_enumerate_1 _) (F.newCall_enumerate_1 _) (fun obj=>F.args_object_init_2 obj _) F.entry_enumerate_new (kYh t xs) ⟨ht,?_⟩
 have hn:∀(g:Heap) (o:Obj),(g.push o).objs.size=g.objs.size+1:=fun _ _=>Heap.size_push ..
 have up:∀ {g:Heap} {o q:Obj} {c:Addr},g.get? c=some q->(g.push o).get? c=some q:=fun e=>Heap.get?_push_of_some _ e
 obtain⟨q,hq,hr⟩:=ht
 have c0:((s.heap.push (itOf t)).push (kKo s.heap.objs.size)).get? s.heap.objs.size=some (itOf t):=up (Heap.get?_push_size _ rfl)
 have c1:((s.heap.push (itOf t)).push (kKo s.heap.objs.size)).get? (s.heap.push (itOf t)).objs.size=some (kKo s.heap.objs.size):=Heap.get?_push_size _ rfl
 show _/\_
 simp only[hn] at c1 ⊢
 exact⟨⟨_,c1,rfl⟩,h _ _ rfl c1 ⟨⟨_,c0,rfl,rfl⟩,q,up (up hq),hr⟩ fun c o e=>up (up e)⟩
theorem jQi {P:Program} {w:World} {A:Around} {s:Shared} {e it t:Addr} {i:Int} {k:Nat} {old:Value} {xs:Array Value} {Q:Option Value->Shared->Prop} {E:Value->Shared->Prop} (hh:A.handled=none) (ne:t≠it) (he:IsEnum s.heap e it i old) (st:kQk it t k xs s.heap) (hk:xs.size<=k)
  (hQ:∀g,Heap.ExtBut it s.heap g->Q none {s with heap:=g}):wpAny (model P w) A (pyNext (.ref e)) Q E s:=by
 have ty:s.TypeIs (.ref e) "enumerate":=⟨_,he,rfl⟩
 refine wpAny_bind (wpAny_attempt (wpAny_callSpecial?_slot (name:=Str.ofString "__next__") ty F.slot_enumerate_next (wpAny_call_entry F.slot_enumerate_next ty F.entry_enumerate_next ?_ (F.args_enumerate_next_1 _))))
 refine (show wpAny _ _ (field (.ref e) 2 >>= _) _ _ _ from wpAny_bind (wpAny_field he rfl (x:= .ref it) rfl (wpAny_bind ?_)))
 refine jX8 (A:=A.in1) hh ne s _ _ st (fun x _ e=>by rw[Array.getElem?_eq_none hk] at e;cases e) fun g x o _ b hx hc=> ?_
 exact wpAny_bind (wpAny_isInstance (T:="StopIteration") (b:=true) ⟨o,hx,hc⟩ isSubtype_stop (wpAny_pure (hQ g b)))
noncomputable def Itn (K:PySem.W.Frag) (a:Addr):It:=
 ⟨fun i H=>∃xs x,SqT K H a xs/\xs[i]? =some x,fun i H x H'=>∃p y,H p=none/\x= .ref p/\(∀xs,SqT K H a xs->xs[i]? =some y)/\H'=upd H p (.tup [.int i,y]),fun i H=>∃xs,SqT K H a xs/\xs.length<=i⟩
theorem kKn {h:Heap} {a e it:Addr} {i:Int} {old:Value} {k:Nat} {xs:Array Value} (he:IsEnum h e it i old) (hi:h.IsTupleIter it a k) (ht:h.IsTuple a xs):a≠it/\e∉[it,a]:=by
 obtain⟨o,ho,hc,_⟩:=hi
 obtain⟨q,hq,hqc,_⟩:=ht
 refine⟨fun z=> ?_,fun m=> ?_⟩
 ·subst z;rw[ho] at hq;cases hq;rw[hc] at hqc;simp at hqc
 ·simp only[List.mem_cons,List.not_mem_nil,or_false] at m
  rcases m with rfl | rfl
  ·rw[he] at ho;cases ho;simp at hc
  ·rw[he] at hq;cases hq;simp at hqc
theorem kKz {P:Program} {w:World} {K:PySem.W.Frag} {elts:List Expr} {k:Nat} {pos:Pos} (a e it:Addr) (hei:e≠it):
  Turn P w K (.Tuple elts k pos) (Itn K a) [e,it] e (fun i h=>(∃old,IsEnum h e it i old)/\h.IsTupleIter it a i) where
 mem:=List.mem_cons_self ..
 obj:=fun i h ⟨⟨old,h1⟩,h2⟩ b hb=>by
  simp only[List.not_mem_nil,List.mem_cons,or_false] at hb
  rcases hb with rfl | rfl
  ·exact⟨_,h1,fun v z=>nomatch (show Data.fields _=Data.cell v from z)⟩
  ·obtain⟨o,e2,c,d⟩:=h2
   exact⟨o,e2,fun v z=>by rw[d] at z;cases z⟩
 keep:=fun i h h' ⟨⟨old,h1⟩,h2⟩ kp=>⟨⟨old,kp e (by simp) _ h1⟩,h2.at fun o q=>kp it (by simp) o q⟩
 item:=by
  rintro X hP hw hK hc i pins s σ H E I hf ⟨⟨old,he⟩,hit⟩ ⟨xs,x,hq,hx⟩
  subst hP hw hK
  obtain⟨its,rv,p,hz⟩:=I.tuple hq
  obtain⟨u,hu,ru⟩:=rv.get hx
  have p':s.heap.IsTuple a its.toArray:=p
  obtain⟨nei,hef⟩:=kKn he hit p'
  have hlt:i<its.toArray.size:=by simpa using (List.getElem?_eq_some_iff.mp hu).1
  refine wpAny_pyNext_enum_itemD (kVi (A:=X.A.in1) (I.ok.hd hc) it a nei its.toArray) he ⟨hit,p'⟩ hlt hei hef fun x' h1 tk hx' ho hit1 hT hsz hk=> ?_
  obtain rfl:u=x':=by simpa[hu] using hx'
  refine⟨_,rfl,wpAny_letOwnedTupleGo_enum ho fun h2 he2 hs2=> ?_⟩
  have hel:e<s.heap.objs.size:=Heap.lt_size he
  have hp2:∀b o,b∉[e,it]->s.heap.get? b=some o->h2.get? b=some o:=fun b o hb q=>by
   simp only[List.mem_cons,List.not_mem_nil,or_false,not_or] at hb
   exact (hs2.2 b hb.1).trans (hk b o hb.1 hb.2 q)
  have hT2:h2.get? s.heap.objs.size=some {cls:= .type "tuple",data:= .seq #[.int i tk,u]}:=(hs2.2 _ (Nat.ne_of_gt hel)).trans hT
  have I2:=jVt (t':=tk+1) (h':=h2) (p:=s.heap.objs.size) (vs:=[.int i,x]) (us:=[.int i tk,u]) I hp2 hf (Nat.le_refl _) ⟨_,hT2,rfl,_,rfl,rfl⟩ (.cons ⟨_,rfl⟩ (.cons ru .nil)) (by show 2<=sizeLine;decide)
  refine⟨.ref s.heap.objs.size,_,I2,rfl,⟨_,x,I.hok.fresh (Nat.le_refl _),rfl,fun ys hy=>by rw[I.tuple_inj hy hq];exact hx,rfl⟩,⟨⟨u,by simpa using he2⟩,hit1.1.at fun o q=>(hs2.2 it hei.symm).trans q⟩,fun b hb=> ?_⟩
  have hbs:∃o,s.heap.get? b=some o:=by
   have hb':=hb
   simp only[List.not_mem_nil,List.mem_cons,or_false] at hb'
   rcases hb' with rfl | rfl
   ·exact⟨_,he⟩
   ·obtain⟨o,q,_⟩:=hit;exact⟨o,q⟩
  obtain⟨o,q⟩:=hbs
  rw[jJs (Nat.ne_of_lt (Heap.lt_size q))]
  exact (hf b hb).1
 done:=by
  rintro X hP hw hK hc i pins s σ H E I hf ⟨⟨old,he⟩,hit⟩ ⟨xs,hq,hx⟩
  subst hP hw hK
  obtain⟨its,rv,p,hz⟩:=I.tuple hq
  have p':s.heap.IsTuple a its.toArray:=p
  obtain⟨nei,hef⟩:=kKn he hit p'
  have hl:=rv.length
  refine jQi (I.ok.hd hc) nei he ⟨hit,p'⟩ (by simp;omega) fun h1 hx1=>⟨rfl,jZy (t':=s.toks) I (fun b o hb q=>hx1 b o (fun z=>hb (by simp[z])) q) hf⟩
 self:=fun _ _ _ _ _ ⟨⟨old,he⟩,_⟩ h=>wpAny_pyIter_enum he h
def iEnT (ta:TA3):TI3:=fun τ G R=>ta τ G fun vs G1=>∃xs,vs=[.tup xs]/\R (numT xs) (fun _=>True) G1
theorem qJm {X:Cx} {elts:List Expr} {k:Nat} {tpos pos p:Pos} {a:Expr} {ta:TA3} (hg:Gl X "enumerate") (hm:X.mg "enumerate"=none) (hv:bootBuiltins "enumerate"=some (.type "enumerate")) (ha:PA3 X [a] ta) (hs:starEach [a] X.env=[(false,eval a X.env)]:=by rfl):
  PI3 X (.Tuple elts k tpos) (.Call (.Name "enumerate" p) [a] [] pos) (iEnT ta):=by
 intro pins s τ G H R I h
 obtain⟨σ0,I0,_,_⟩:=id I
 refine Call_ (jK1 I0 hg hm hv (PyProof.Rows.callWith_type1 (thn (ha pos pins s τ G H _ I h) fun us s1 w_=>w_.el fun xs' G1 H1 e1 i_ r_ q1=>i_.el fun σ I1 hs1 hg1=>r_.el fun as ras rvs=> ?_) hs rfl))
 obtain⟨xs,e,q⟩:=q1
 subst e
 obtain⟨v,rfl,rv⟩:=jUq ras
 obtain⟨u,rfl,ru⟩:=rvs.one
 obtain⟨pa,vs,rfl,hq,r⟩:=(show ∃p vs,v= .ref p/\H1 p=some (.tup vs)/\Reps X.K H1 xs vs from rv)
 cases ru
 obtain⟨its,rvv,pl,hz⟩:=I1.tuple (.of hq)
 refine kVe (show s1.heap.IsTuple pa its.toArray from pl) fun h1 n hn he hit hk=> ?_
 subst hn
 have I2:Inv X pins σ H1 {s1 with heap:=h1}:=I1.kept (t':=s1.toks) hk
 refine wpAny_pyIter_enum (Q:=PIE3 X pins τ H (.Tuple elts k tpos) R) he ?_
 have fr:∀b∈[s1.heap.objs.size+1,s1.heap.objs.size],FpOk X pins H1 b:=fun b hb=>by
  simp only[List.not_mem_nil,List.mem_cons,or_false] at hb
  have hle:s1.heap.objs.size<=b:=by omega
  exact I1.fpOk hle (I1.hok.fresh hle)
 refine⟨s1.heap.objs.size+1,[s1.heap.objs.size+1,s1.heap.objs.size],_,_,numT xs,fun _=>True,G1,H1,rfl,e1,⟨σ,I2,hs1,hg1⟩,kKz pa _ _ (Nat.succ_ne_self _),⟨⟨.none,he⟩,hit.1⟩,fr,?_,q⟩
 intro i H2 G2 e2 g2 _
 obtain⟨pb,ws,eb,h1',h2⟩:=(show ∃p vs,V.ref pa= .ref p/\H2 p=some (.tup vs)/\Reps X.K H2 xs vs from Rep.mono e2 _ rv)
 cases eb
 have hlen:=h2.length
 refine⟨fun hi=> ?_,fun hi=>⟨ws,.of h1',by rw[jJ0] at hi;omega⟩,fun hi y H' ⟨pp,z,hn,ey,hy,eH⟩=> ?_⟩
 ·rw[jJ0] at hi
  exact⟨ws,ws[i]'(by omega),.of h1',by simp[hlen▸hi]⟩
 ·subst ey;subst eH
  obtain⟨t,ht,rt⟩:=h2.get' (hy ws (.of h1'))
  exact⟨.upd (.none hn),g2.tupNew hn,_,jQ8 ht,Rep.tupNew ⟨_,_,rfl,rfl,_,_,rfl,rt,rfl⟩ hn⟩
section
variable {X:Cx}
noncomputable def kQx (tk tv:TE3):TE3:=fun τ G Q=>∀p,G p=none->tk τ (gup G p (.dck [])) fun x G1=>tv τ G1 fun y G2=>∃k,jV7 x=some k/\G2 p=some (.dck [])/\Q (.ref p) (gup G2 p (.dck [(k,y)]))
theorem qJt {pos:Pos} {k v:Expr} {tk tv:TE3} (hk:PE3 X k tk) (hv:PE3 X v tv):PE3 X (.Dict [some k] [v] pos) (kQx tk tv):=by
 rintro pins s τ G H Q ⟨σ,I,hs,hg⟩ h
 have hn:=I.hok.fresh (Nat.le_refl s.heap.objs.size)
 have I1:=I.laid (a:=s.heap.objs.size) (o:= .dK []) (h':=s.heap.push {cls:= .type "dict",data:= .dict #[]}) (t':=s.toks) (fun _ _ q=>Heap.get?_push_of_some _ q) (Nat.le_refl _) (kKq s.heap I.big)
 have I3:Inv3 X pins τ (gup G s.heap.objs.size (.dck [])) (upd H s.heap.objs.size (.dK [])) {s with heap:=s.heap.push {cls:= .type "dict",data:= .dict #[]},toks:=s.toks}:=
  ⟨σ,I1,hs.mono (.upd (.none hn)),hg.upd (.none hn) (go:= .dck []) ⟨[],jJ7,.nil⟩⟩
 refine wpAny_Dict_walk (knd:=jJ9 X.prog X.w) rfl rfl (by simp) (by simp) (pairTrees_cons_walk (thn (hk pins _ τ _ _ _ I3 (h _ (hg.fresh hn))) fun u s1 w_=>w_.el fun x G1 H1 e1 J1 ru q1=>thn (hv pins s1 τ G1 H1 _ J1 q1) fun u2 s2 w_=>w_.el fun y G2 H2 e2 i_ ru2 ⟨key,hkey,hd,q2⟩=>i_.el fun σ2 J2 hs2 hg2=>pairTrees_nil_walk ?_))
 obtain⟨ws,hH2,pk⟩:=(show ∃ws,H2 s.heap.objs.size=some (.dK ws)/\PKV X.K H2 [] ws from hg2 _ _ hd)
 cases pk
 obtain⟨a,ra,rva⟩:=ru.mono e2
 obtain⟨c,rc,rvc⟩:=ru2
 obtain rfl:=jUt hkey ra
 obtain⟨rs,cr,rk⟩:=jX4 (P:=X.prog) (w:=X.w) (kvs:=[(key,c)]) (ws:=[(u,u2)]) (.cons ⟨rva,rvc⟩ .nil)
 obtain⟨z,hdd,vs0,r0,dd⟩:=dk_of J2.hok hH2
 cases r0
 refine⟨rs,cr,dd,fun h' dd' hsb=> ?_⟩
 have he:∃q,h'.get? s.heap.objs.size=some q:=let ⟨q,_,_,hq,_⟩:=dd';⟨q,hq⟩
 have JJ:=kJw (t':=s2.toks+[(u,u2)].length) J2 (by rw[hH2];exact True.intro) hsb he (kZg (kvs:=[(key,c)]) (by rw[sizeLine_eq];exact Nat.succ_le_of_lt (Nat.succ_pos _)) hdd (rk.merge .nil) dd')
 have ext:Ext H2 (upd H2 s.heap.objs.size (.dK [(key,c)])):= .upd (.dK hH2)
 exact⟨.ref s.heap.objs.size,_,_,(((Ext.upd (.none hn)).trans e1).trans e2).trans ext,⟨σ2,JJ,hs2.mono ext,hg2.upd (.dK hH2) (go:= .dck [(key,y)]) ⟨_,jJ7,PKV.put (kvs:=[]) .nil key (Rep.mono ext _ rc)⟩⟩,⟨.ref _,rfl,rfl⟩,q2⟩
end
section
variable {X:Cx}
end
end L3
namespace L3
open PySem PySem.Spec PyProof.Rows L2 MeetsSeq
section
variable {X:Cx}
end
end L3
namespace L3
open PySem PySem.Spec PyProof.Rows L2
theorem kJx {P:Program} {w:World} {A:Around} {E:Value->Shared->Prop} {s:Shared} {r:Addr} {a b c:Int} {t u v:Tok} {n:Nat} {Q:List Value->Shared->Prop} (hh:A.handled=none) (hr:IsRange s.heap r a b c t u v) (hsm:Builtin.Range.small a b c=true)
  (hn:Builtin.Range.rangeSize a b c=n) (hl:n<=2^24) (hQ:∀(g:Heap) (tk:Nat) (acc:Array Value),(∀d o,s.heap.get? d=some o->g.get? d=some o)->ItemsOf (fun i x=>∃t,x= .int (a+i*c) t) acc n->Q acc.toList {s with heap:=g,toks:=tk}):wpAny (model P w) A (collect (.ref r)) Q E s:=by
 have key:∀R:Result->Shared->Prop,(∀(g:Heap) (tk:Nat) (acc:Array Value) (c':Nat),(∀d o,s.heap.get? d=some o->g.get? d=some o)->g.get? s.heap.objs.size=some {cls:= .type "list",dict:=none,data:= .seq acc c',slots:= #[]}->ItemsOf (fun i x=>∃t,x= .int (a+i*c) t) acc n->R (.ok (.ret (.ref s.heap.objs.size))) {s with heap:=g,toks:=tk})->
   codeAny (model P w) A (.builtin "proto.collect" ⟨[.ref r],[]⟩) R s:=by
  intro R hR
  refine codeAny_builtin F.entry_proto_collect ?_;rw[Around.under_plainId F.plain_proto_collect _]
  refine (show wpAny _ A.in1 (newList [] >>= fun l=>again (.builtin "list.__iadd__" ⟨[l,.ref r],[]⟩)) _ _ s from wpAny_bind (wpAny_newObj_type (wpAny_pure ⟨plainId_quiet F.plain_list_iadd _,codeAny_builtin F.entry_list_iadd ?_⟩)))
  rw[Around.under_plainId F.plain_list_iadd _];have hS:(s.heap.push {cls:= .type "list",data:= .seq ([]:List Value).toArray}).get? s.heap.objs.size=some {cls:= .type "list",data:= .seq ([]:List Value).toArray}:=Heap.get?_push_size _ rfl
  exact wpAny_extend_range (A:=A) (R:=R) hh (Heap.get?_push_of_some _ hr) hsm hn hl s.heap.objs.size (.ref s.heap.objs.size) _ hS fun g tk acc c' kp hS' it=>hR g tk acc c' (fun d o e=>kp d o (Nat.ne_of_lt (Heap.lt_size e)) (Heap.get?_push_of_some _ e)) hS' it
 unfold collect
 exact wpAny_bind (wpAny_runValue (key _ fun g tk acc c' kp hS' it=>(show wpAny _ A (load s.heap.objs.size >>= _) _ _ _ from wpAny_bind (wpAny_load hS' (wpAny_pure (hQ g tk acc kp it))))))
theorem kQu {P:Program} {w:World} {A:Around} {E:Value->Shared->Prop} {s:Shared} {r:Addr} {a b c:Int} {t u v:Tok} {n:Nat} {Q:Value->Shared->Prop} (hh:A.handled=none) (hr:IsRange s.heap r a b c t u v) (hsm:Builtin.Range.small a b c=true)
  (hn:Builtin.Range.rangeSize a b c=n) (hl:n<=2^24) (hQ:∀(g:Heap) (tk:Nat) (acc:Array Value),(∀d o,s.heap.get? d=some o->g.get? d=some o)->ItemsOf (fun i x=>∃t,x= .int (a+i*c) t) acc n->Q (.ref g.objs.size) {s with heap:=g.push {cls:= .type "tuple",data:= .seq acc},toks:=tk}):
  wpAny (model P w) A (call (.type "tuple") [.ref r]) Q E s:=by
 refine callType_codes (Q₁:=fun obj z=>z.TypeIs obj "tuple"/\Q obj z) F.called_tuple (F.typeCall_tuple_1 _) F.entry_object_init (codeAny_of_tree ?_) fun obj z hz=>⟨hz.1,F.args_object_init_2 obj _,object_init_meets F.called_tuple.init.lookup F.called_tuple.made (by decide) P w A.in1 _ z ⟨hz.1,rfl,hz.2⟩⟩
 refine (show wpAny _ A.in1.in1 (do checkBuiltinCall "tuple.__new__" ⟨[.type "tuple",.ref r],[]⟩;again (.builtin "tuple.__new__" ⟨[.type "tuple",.ref r],[]⟩)) _ _ s from wpAny_bind (wpAny_of_eq (F.newCall_tuple_1 _) (wpAny_pure ⟨plainId_quiet F.plain_tuple_new _,codeAny_builtin F.entry_tuple_new ?_⟩)))
 rw[Around.under_plainId F.plain_tuple_new _];have h1:=sub_tuple_self
 have h2:=init_tuple_lookup
 have h3:=madeHere_tuple
 have ty:s.TypeIs (.ref r) "range":=⟨_,hr,rfl⟩
 wp_walk using wpAny_typeOf ty,kJx (A:=A.in1.in1) hh hr hsm hn hl
 intro g tk acc kp it
 refine (show wpAny _ _ (Builtin.Tuple.tupleExact acc.toList.toArray >>= fun x=>ret x) _ _ _ from ?_)
 unfold Builtin.Tuple.tupleExact;refine wpAny_bind (wpAny_newObj_type (wpAny_pure ?_) (by show acc.toList.toArray.size<=sizeLine;simp only[Array.toArray_toList];rw[it.1,sizeLine_eq];omega))
 rw[show acc.toList.toArray=acc by simp]
 exact⟨⟨_,Heap.get?_push_size _ rfl,rfl⟩,hQ g tk acc kp it⟩
section
variable {X:Cx}
theorem jY2:∀(us:List Value) (k:Nat),(∀(j:Nat) (v:Value),us[j]? =some v->∃t,v= .int ((k+j:Nat):Int) t)->Vals ((List.range' k us.length).map fun (i:Nat)=>V.int i) us
 | [],_,_=> .nil
 | u::us,k,h=>by
  obtain⟨t,e⟩:=h 0 u rfl
  refine .cons (show RelV (.int (k:Nat)) u from⟨t,by simpa using e⟩) (jY2 us (k+1) fun j v hj=> ?_)
  obtain⟨t,e⟩:=h (j+1) v hj
  exact⟨t,by rw[e];congr 1;omega⟩
theorem jY6 {K:PySem.W.Frag} {H:Hp}:∀(n k:Nat),Reps K H ((List.range' k n).map fun (i:Nat)=>T.int (0+(i:Nat))) ((List.range' k n).map fun (i:Nat)=>V.int i)
 | 0,_=>rfl
 | n+1,k=>⟨_,_,rfl,by show V.int _= .int (0+_);simp,jY6 n (k+1)⟩
def jY4 (ta:TA3):TE3:=fun τ G Q=>ta τ G fun vs G1=>∃n:Nat,vs=[.int n]/\n<=1000000/\Q (.tup (rngT 0 n)) G1
theorem kZe {pos pos' p p':Pos} {a:Expr} {ta:TA3} (hc:X.calm=true) (hl:Gl X "tuple") (hlm:X.mg "tuple"=none) (hg:Gl X "range") (hm:X.mg "range"=none) (ha:PA3 X [a] ta) (hs:starEach [a] X.env=[(false,eval a X.env)]:=by rfl)
  (hs':starEach [Expr.Call (.Name "range" p) [a] [] pos] X.env=[(false,eval (.Call (.Name "range" p) [a] [] pos) X.env)]:=by rfl):
  PE3 X (.Call (.Name "tuple" p') [.Call (.Name "range" p) [a] [] pos] [] pos') (jY4 ta):=by
 intro pins s τ G H Q I h
 obtain⟨σ,I0,_,_⟩:=id I
 refine Call_ (jK1 I0 hl hlm rfl (PyProof.Rows.callWith_type1 ?_ hs' rfl))
 rw[hs']
 refine Calls.spliced_cons (Call_ (jK1 I0 hg hm boot_range (PyProof.Rows.callWith_type1 (thn (ha pos pins s τ G H _ I h) fun us s1 w_=>w_.el fun xs G1 H1 e1 i_ r_ q1=>i_.el fun σ1 I1 hs1 hg1=>r_.el fun as ras rvs=> ?_) hs rfl)))
 obtain⟨n,e,hn,q⟩:=q1
 subst e
 obtain⟨v,rfl,rv⟩:=jUq ras
 obtain⟨u,rfl,ru⟩:=rvs.one
 cases (show v= .int n from rv)
 obtain⟨t,rfl⟩:=ru
 refine call_range_1 (Calls.spliced_nil ?_)
 have I2:Inv X pins σ1 H1 {s1 with heap:=s1.heap.push {cls:= .type "range",data:= .fields #[.int 0 s1.toks,.int n t,.int 1 (s1.toks+1)]},toks:=s1.toks+1+1}:=I1.kept fun b o e=>Heap.get?_push_of_some _ e
 refine kQu (n:=n) (I1.ok.hd hc) (IsRange.new ..) (small_one (by decide) (by decide) (by omega) (by omega)) (by rw[rangeSize_one];split<;>omega) (by omega) fun g tk acc kp it=> ?_
 have hv:Vals ((List.range' 0 acc.toList.length).map fun (i:Nat)=>V.int i) acc.toList:=jY2 acc.toList 0 fun j v hj=>by
  obtain⟨t,e⟩:=it.2 j v (by simpa using hj)
  exact⟨t,by rw[e];congr 1;simp⟩
 have hlen:acc.toList.length=n:=by simpa using it.1
 rw[hlen] at hv
 have hz:=sizeLine_eq
 have hge:(s1.heap.push {cls:= .type "range",data:= .fields #[.int 0 s1.toks,.int n t,.int 1 (s1.toks+1)]}).objs.size<=g.objs.size:=by
  rw[Heap.size_push]
  exact Heap.lt_size (kp _ _ (Heap.get?_push_size _ rfl))
 have fr:=I2.hok.fresh hge
 have I3:=I2.laid (a:=g.objs.size) (o:= .tup ((List.range' 0 n).map fun (i:Nat)=>V.int i)) (h':=g.push {cls:= .type "tuple",data:= .seq acc}) (t':=tk) (fun b o e=>Heap.get?_push_of_some _ (kp b o e)) hge ⟨by simp;omega,acc.toList,hv,by simpa using TupD.new g acc⟩
 have ext:Ext H1 (upd H1 g.objs.size (.tup ((List.range' 0 n).map fun (i:Nat)=>V.int i))):= .upd (.none fr)
 refine⟨.tup (rngT 0 n),G1,_,e1.trans ext,⟨σ1,I3,hs1.mono ext,hg1.tupNew fr⟩,⟨.ref g.objs.size,?_,rfl⟩,q⟩
 rw[rngT,List.range_eq_range']
 exact Rep.tupNew (jY6 n 0) fr
end
section
variable {X:Cx}
end
section
variable {P:Program} {w:World} {A:Around} {E:Value->Shared->Prop} {s:Shared} {d:Addr}
theorem jU9 {o:Obj} {es:Array DictEntry} {ep:Nat} {Q:Value->Shared->Prop} (hd:(d == sysModules)=false) (ho:s.heap.get? d=some o) (hc:o.ExactDict) (hx:o.data= .dict es ep) (hz:es.size<=sizeLine)
  (h:Q (.int es.size (s.toks+1)) {s with toks:=s.toks+1+1}):wpAny (model P w) A (call (.builtin "len") [.ref d]) Q E s:=by
 have hsl:=sizeLine_eq
 have ty:s.TypeIs (.ref d) "dict":=⟨o,ho,hc.1⟩
 refine Calls.call_function_entry kind_len plain_len entry_len (args_len1 _) ?_;unfold Builtin.«len»; refine wpAny_bind (m:=oneArg "len" _) (wpAny_pure ?_)
 have M:MeetsIn P w (Builtin.«dict.__len__» ⟨[.ref d],[]⟩) (fun _ R z=>(∃o es ep,z.heap.get? d=some o/\o.data= .dict es ep/\R (.ok (.ret (.int es.size z.toks))) {z with toks:=z.toks+1})):=
  .of_wp fun A R z ⟨o,es,ep,ho,hx,h⟩=>by
   refine (show wpAny _ _ (dictSize d >>= _) _ _ z from ?_)
   unfold dictSize;refine wpAny_bind (wpAny_bind (wpAny_dictEntries ho hx (wpAny_pure ?_)))
   refine (show wpAny _ _ (Builtin.Dict.pendingCount d >>= _) _ _ z from wpAny_bind (wpAny_pendingCount_other hd (wpAny_ret_mkInt ?_)))
   rw[Nat.add_zero];exact h
 refine wpAny_bind (m:=callSpecial? (.ref d) (Str.ofString "__len__")) (wpAny_callSpecial?_slot (name:=Str.ofString "__len__") ty F.slot_dict_len (call_meetsIn F.slot_dict_len ty F.entry_dict_len (F.args_dict_len_1 _) M ⟨o,es,ep,ho,hx,?_⟩))
 refine (show wpAny _ _ _ _ _ {s with toks:=s.toks+1} from wpAny_bind (wpAny_holding (wpAny_pure (wpAny_bind (wpAny_letGo ?_)))))
 refine (show wpAny _ _ (if ((es.size:Nat):Int)<0 then _ else _) _ _ _ from ?_);rw[if_neg (by omega)]
 refine (show wpAny _ _ (if ((es.size:Nat):Int)>=2^63 then _ else _) _ _ _ from ?_);rw[if_neg (by omega)]
 exact (wpAny_bind (wpAny_mkInt (wpAny_pure ⟨_,rfl,h⟩)))
end
section
variable {X:Cx}
noncomputable def lenG (G:Gp):T->Option Nat
 | .ref p=>match G p with
  | some (.lst xs)=>some xs.length
  | some (.dct kvs)=>some kvs.length
  | some (.dck kvs)=>some kvs.length
  | some (.fdc _)=>none
  | some (.ins _ _)=>none
  | some (.exc _)=>none
  | none=>none
 | .tup xs=>some xs.length
 | .scr xs=>some xs.length
 | _=>none
def kXh:List T->Gp->VK3->Prop:=fun xs G Q=>∃x n,xs=[x]/\lenG G x=some n/\Q (.int (n:Nat)) G
theorem kZi:Call3 X (.builtin "len") kXh:=by
 rintro pins s τ G H xs us Q I rs ⟨x,n,ex,hx,q⟩
 by_cases hd:∃p,x= .ref p/\((∃kvs,G p=some (.dct kvs))\/∃kvs,G p=some (.dck kvs))
 ·subst ex
  obtain⟨p,rfl,hk⟩:=hd
  obtain⟨σ,I,hs,hg⟩:=I
  obtain⟨as,ras,rvs⟩:=rs
  obtain⟨v,rfl,rv⟩:=jUq ras
  obtain⟨u,rfl,ru⟩:=rvs.one
  cases (show v= .ref p from rv);cases ru
  rcases hk with ⟨kvs,hG⟩ | ⟨kvs,hG⟩
  ·simp only[lenG,hG] at hx;cases hx
   obtain⟨ws,h1,h2⟩:=hg p _ hG
   obtain⟨z,y,xs,r,o,es,ep,e1,e2,e3,e4,e5⟩:=(show ObjOk X.prog X.w H s.heap p (.dT ws) from I.hok p _ h1)
   have l1:es.size=kvs.length:=by
    have a1:=congrArg List.length e4
    have a2:=Paired.length r
    have a3:=h2.length
    simp at a1;omega
   refine jU9 y e1 e2 e3 (by have:=h2.length;omega) ?_
   rw[l1]
   exact⟨.int (kvs.length:Nat),G,H,.refl H,⟨σ,I.tok _,hs,hg⟩,⟨.int _,rfl,_,rfl⟩,q⟩
  ·simp only[lenG,hG] at hx;cases hx
   obtain⟨ws,h1,h2⟩:=hg p _ hG
   obtain⟨z,y,vs,rel,o,es,ep,e1,e2,e3,e4,e5,e6⟩:=(show ObjOk X.prog X.w H s.heap p (.dK ws) from I.hok p _ h1)
   have l1:es.size=kvs.length:=by
    have a1:=e5.length
    have a2:=rel.length
    have a3:=h2.length
    simp at a1;omega
   refine jU9 y e1 e2 e3 (by have:=h2.length;omega) ?_
   rw[l1]
   exact⟨.int (kvs.length:Nat),G,H,.refl H,⟨σ,I.tok _,hs,hg⟩,⟨.int _,rfl,_,rfl⟩,q⟩
 ·refine jQo pins s τ G H xs us Q I rs ?_
  cases x with
  | ref p=>
   cases hG:G p with
   | none=>simp only[lenG,hG] at hx;cases hx
   | some g=>
    cases g with
    | lst ys=>simp only[lenG,hG] at hx;cases hx;exact⟨_,ys,ex,by simp only[seqT,hG,asL],q⟩
    | dct kvs=>exact absurd ⟨p,rfl,.inl ⟨kvs,hG⟩⟩ hd
    | fdc kvs=>simp only[lenG,hG] at hx;cases hx
    | ins _ _=>simp only[lenG,hG] at hx;cases hx
    | exc _=>simp only[lenG,hG] at hx;cases hx
    | dck kvs=>exact absurd ⟨p,rfl,.inr ⟨kvs,hG⟩⟩ hd
  | tup ys=>cases hx;exact⟨_,ys,ex,rfl,q⟩
  | scr ys=>cases hx;exact⟨_,ys,ex,rfl,q⟩
  | non=>cases hx
  | bl _=>cases hx
  | int _=>cases hx
  | str _=>cases hx
  | ty _=>cases hx
end
noncomputable def Itl (K:PySem.W.Frag) (a1 a2:Addr):It:=
 ⟨fun i H=>∃xs ys x y,SqL K H a1 xs/\SqL K H a2 ys/\xs[i]? =some x/\ys[i]? =some y,
  fun i H v H'=>∃p x y,H p=none/\v= .ref p/\(∀xs,SqL K H a1 xs->xs[i]? =some x)/\(∀ys,SqL K H a2 ys->ys[i]? =some y)/\H'=upd H p (.tup [x,y]),
  fun i H=>∃xs ys,SqL K H a1 xs/\SqL K H a2 ys/\(xs.length<=i\/ys.length<=i)⟩
theorem kQr {P:Program} {w:World} {K:PySem.W.Frag} {elts:List Expr} {k:Nat} {pos:Pos} (z TI TO i1 i2 a1 a2:Addr) (D:ZipApart z TI TO i1 i2 a1 a2):
  Turn P w K (.Tuple elts k pos) (Itl K a1 a2) [z,TI,TO,i1,i2] z (fun i h=>IsZip h z TI TO .none/\IsPair h TI (.ref i1) (.ref i2)/\(∃a b,IsPair h TO a b)/\h.IsListIter i1 a1 i/\h.IsListIter i2 a2 i) where
 mem:=by simp
 obj:=fun i h ⟨hz,hTI,⟨a,b,hTO⟩,h1,h2⟩ c hc=>by
  simp only[List.mem_cons,List.not_mem_nil,or_false] at hc
  rcases hc with rfl | rfl | rfl | rfl | rfl
  ·exact⟨_,hz,fun v z=>nomatch (show Data.fields _=Data.cell v from z)⟩
  ·exact⟨_,hTI,fun v z=>nomatch (show Data.seq _ _=Data.cell v from z)⟩
  ·exact⟨_,hTO,fun v z=>nomatch (show Data.seq _ _=Data.cell v from z)⟩
  ·obtain⟨o,e,c,d⟩:=h1;exact⟨o,e,fun v z=>by rw[d] at z;cases z⟩
  ·obtain⟨o,e,c,d⟩:=h2;exact⟨o,e,fun v z=>by rw[d] at z;cases z⟩
 keep:=fun i h h' ⟨hz,hTI,⟨a,b,hTO⟩,h1,h2⟩ kp=>⟨kp z (by simp) _ hz,kp TI (by simp) _ hTI,⟨a,b,kp TO (by simp) _ hTO⟩,h1.at fun o q=>kp i1 (by simp) o q,h2.at fun o q=>kp i2 (by simp) o q⟩
 item:=by
  rintro X hP hw hK hc i pins s σ H E I hf ⟨hz,hTI,⟨a,b,hTO⟩,h1,h2⟩ hg
  subst hP hw hK
  obtain⟨xs,ys,x,y,hq1,hq2,hx,hy⟩:=hg
  obtain⟨its1,rv1,p1,hz1⟩:=I.list hq1
  obtain⟨its2,rv2,p2,hz2⟩:=I.list hq2
  obtain⟨u1,hu1,ru1⟩:=rv1.get hx
  obtain⟨u2,hu2,ru2⟩:=rv2.get hy
  refine wpAny_pyNext_zip_item D hz hTI hTO h1 h2 p1.isList p2.isList (x:=u1) (y:=u2) (by simpa using hu1) (by simpa using hu2) fun g1 ho gTO g3 g4 hT hsz hk=> ?_
  refine⟨_,rfl,wpAny_letOwnedTupleGo_zip ho fun g2 gz hs2=> ?_⟩
  have hzl:z<s.heap.objs.size:=Heap.lt_size hz
  have hp2:∀b o,b∉[z,TI,TO,i1,i2]->s.heap.get? b=some o->g2.get? b=some o:=fun b o hb q=>by
   simp only[List.mem_cons,List.not_mem_nil,or_false,not_or] at hb
   exact (hs2.2 b hb.1).trans (hk b o hb.1 hb.2.2.1 hb.2.2.2.1 hb.2.2.2.2 q)
  have hT2:g2.get? s.heap.objs.size=some {cls:= .type "tuple",data:= .seq #[u1,u2]}:=(hs2.2 _ (Nat.ne_of_gt hzl)).trans hT
  have I2:=jVt (t':=s.toks) (h':=g2) (p:=s.heap.objs.size) (vs:=[x,y]) (us:=[u1,u2]) I hp2 hf (Nat.le_refl _) ⟨_,hT2,rfl,_,rfl,rfl⟩ (.cons ru1 (.cons ru2 .nil)) (by show 2<=sizeLine;decide)
  refine⟨.ref s.heap.objs.size,_,I2,rfl,⟨_,x,y,I.hok.fresh (Nat.le_refl _),rfl,fun zs hz=>by rw[I.list_inj hz hq1];exact hx,fun zs hz=>by rw[I.list_inj hz hq2];exact hy,rfl⟩,
   ⟨gz,(hs2.2 _ D.TIz).trans (hk _ _ D.TIz D.TITO D.TIi1 D.TIi2 hTI),⟨_,_,(hs2.2 _ D.TOz).trans gTO⟩,g3.at fun o q=>(hs2.2 _ D.i1z).trans q,g4.at fun o q=>(hs2.2 _ D.i2z).trans q⟩,fun b hb=> ?_⟩
  have hbs:∃o,s.heap.get? b=some o:=by
   have hbq:=hb
   simp only[List.mem_cons,List.not_mem_nil,or_false] at hbq
   rcases hbq with rfl | rfl | rfl | rfl | rfl
   ·exact⟨_,hz⟩
   ·exact⟨_,hTI⟩
   ·exact⟨_,hTO⟩
   ·obtain⟨o,q,_⟩:=h1;exact⟨o,q⟩
   ·obtain⟨o,q,_⟩:=h2;exact⟨o,q⟩
  obtain⟨o,q⟩:=hbs
  rw[jJs (Nat.ne_of_lt (Heap.lt_size q))]
  exact (hf b hb).1
 done:=by
  rintro X hP hw hK hc i pins s σ H E I hf ⟨hz,hTI,⟨a,b,hTO⟩,h1,h2⟩ hg
  subst hP hw hK
  obtain⟨xs,ys,hq1,hq2,hx⟩:=hg
  obtain⟨its1,rv1,p1,hz1⟩:=I.list hq1
  obtain⟨its2,rv2,p2,hz2⟩:=I.list hq2
  have hl1:=rv1.length
  have hl2:=rv2.length
  refine wpAny_pyNext_zip_end (I.ok.hd hc) D hz hTI hTO h1 h2 p1.isList p2.isList ?_ fun g1 hk=>⟨rfl,jZy (t':=s.toks) (fp:=[z,TI,TO,i1,i2]) I (fun b o hb q=> ?_) hf⟩
  ·rcases hx with hx | hx
   ·exact .inl (by simp;omega)
   ·exact .inr (by simp;omega)
  ·simp only[List.mem_cons,List.not_mem_nil,or_false,not_or] at hb
   exact hk b o hb.1 hb.2.2.1 hb.2.2.2.1 hb.2.2.2.2 q
 self:=fun _ _ _ _ _ ⟨hz,_⟩ h=>wpAny_pyIter_zip hz h
noncomputable def kJr (ta:TA3):TI3:=fun τ G R=>ta τ G fun vs G1=>∃x y xs ys,vs=[x,y]/\jK0 G1 x=some xs/\jK0 G1 y=some ys/\R (zipT xs ys) (fun G'=>jK0 G' x=some xs/\jK0 G' y=some ys) G1
theorem kY9 {X:Cx} {elts:List Expr} {k:Nat} {tpos pos p:Pos} {a b:Expr} {ta:TA3} (hg:Gl X "zip") (hm:X.mg "zip"=none) (hv:bootBuiltins "zip"=some (.type "zip")) (ha:PA3 X [a,b] ta) (hs:starEach [a,b] X.env=[(false,eval a X.env),(false,eval b X.env)]:=by rfl) (hs2:starEach [b] X.env=[(false,eval b X.env)]:=by rfl):
  PI3 X (.Tuple elts k tpos) (.Call (.Name "zip" p) [a,b] [] pos) (kJr ta):=by
 intro pins s τ G H R I h
 obtain⟨σ0,I0,hs0,hg0⟩:=id I
 refine Call_ (jK1 I0 hg hm hv (PyProof.Rows.callWith_type1 (thn (ha pos pins s τ G H _ I h) fun us s1 w_=>w_.el fun xs' G1 H1 e1 i_ r_ q1=>i_.el fun σ I1 hs1 hg1=>r_.el fun as ras rvs=> ?_) (by rw[hs,hs2]) (by rw[hs2];rfl)))
 obtain⟨x,y,xs,ys,e,hx,hy,q⟩:=q1
 subst e
 obtain⟨v,w,rfl,rv,rw'⟩:=jZ4 ras
 obtain⟨u,u',rfl,ru,ru'⟩:=rvs.two
 obtain⟨pa,vs,rfl,hq1,r1⟩:=jK9 hg1 rv hx
 obtain⟨pb,ws,rfl,hq2,r2⟩:=jK9 hg1 rw' hy
 cases ru;cases ru'
 obtain⟨its1,rv1,p1,hz1⟩:=I1.list hq1
 obtain⟨its2,rv2,p2,hz2⟩:=I1.list hq2
 have hal:pa<s1.heap.objs.size:=by obtain⟨o,ho,_⟩:=p1.isList;exact Heap.lt_size ho
 have hbl:pb<s1.heap.objs.size:=by obtain⟨o,ho,_⟩:=p2.isList;exact Heap.lt_size ho
 refine call_zip_2 p1.isList p2.isList fun h1 hz hTI hTO hi1 hi2 hsz hk=> ?_
 have I2:Inv X pins σ H1 {s1 with heap:=h1}:=I1.kept (t':=s1.toks) hk
 refine wpAny_pyIter_zip hz ?_
 have fr:∀c∈[s1.heap.objs.size+4,s1.heap.objs.size+2,s1.heap.objs.size+3,s1.heap.objs.size,s1.heap.objs.size+1],FpOk X pins H1 c:=fun c hc=>by
  simp only[List.mem_cons,List.not_mem_nil,or_false] at hc
  have hle:s1.heap.objs.size<=c:=by omega
  exact I1.fpOk hle (I1.hok.fresh hle)
 have D:ZipApart (s1.heap.objs.size+4) (s1.heap.objs.size+2) (s1.heap.objs.size+3) s1.heap.objs.size (s1.heap.objs.size+1) pa pb:=zapart hal hbl
 refine⟨s1.heap.objs.size+4,_,_,_,zipT xs ys,fun G'=>jK0 G' x=some xs/\jK0 G' y=some ys,G1,H1,rfl,e1,⟨σ,I2,hs1,hg1⟩,kQr _ _ _ _ _ pa pb D,⟨hz,hTI,⟨_,_,hTO⟩,hi1,hi2⟩,fr,?_,q⟩
 intro i H2 G2 e2 g2 st
 obtain⟨pa',vs',ea,ha',ra'⟩:=jK9 g2 (Rep.mono e2 _ rv) st.1
 obtain⟨pb',ws',eb,hbq,rb'⟩:=jK9 g2 (Rep.mono e2 _ rw') st.2
 cases ea;cases eb
 have hl1:=ra'.length
 have hl2:=rb'.length
 have hzl:(zipT xs ys).length=min xs.length ys.length:=by simp[zipT]
 refine⟨fun hi=> ?_,fun hi=>⟨vs',ws',ha',hbq,by omega⟩,fun hi y H' ⟨pp,x1,x2,hn,ey,hy1,hy2,eH⟩=> ?_⟩
 ·exact⟨vs',ws',vs'[i]'(by omega),ws'[i]'(by omega),ha',hbq,List.getElem?_eq_getElem _,List.getElem?_eq_getElem _⟩
 ·subst ey;subst eH
  obtain⟨t1,ht1,rt1⟩:=ra'.get' (hy1 vs' ha')
  obtain⟨t2,ht2,rt2⟩:=rb'.get' (hy2 ws' hbq)
  have hzi:(zipT xs ys)[i]? =some (.tup [t1,t2]):=by
   unfold zipT
   rw[List.getElem?_map,show (xs.zip ys)[i]? =some (t1,t2) from List.getElem?_zip_eq_some.mpr ⟨ht1,ht2⟩];rfl
  exact⟨.upd (.none hn),g2.tupNew hn,_,hzi,Rep.tupNew ⟨_,_,rfl,rt1,_,_,rfl,rt2,rfl⟩ hn⟩
section
variable {X:Cx}
def kK9:List T->Gp->VK3->Prop:=fun xs G Q=>∃i j,xs=[.int i,.int j]/\Q (.int (if j<i then j else i)) G
theorem kZh (hc:X.calm=true):Call3 X (.builtin "min") kK9:=
 Call3.of (kVp hc) fun H G xs as Q hg ra ⟨i,j,e,q⟩=>by
  subst e
  obtain⟨v,w,rfl,rv,rw'⟩:=jZ4 ra
  cases (show v= .int i from rv);cases (show w= .int j from rw')
  exact⟨i,j,rfl,.int _,G,.refl H,hg,rfl,q⟩
end
section
variable {X:Cx}
theorem kQo:∀ {xs:List V} {us:List Value},Vals xs us->Vals xs.reverse us.reverse
 | _,_,.nil=> .nil
 | x::xs,u::us,.cons r rs=>by
  rw[List.reverse_cons,(List.reverse_cons)]
  exact Vals.append (kQo rs) (.cons r .nil)
theorem kQ7 {K:PySem.W.Frag} {H:Hp}:∀ {xs:List T} {vs:List V},Reps K H xs vs->Reps K H xs.reverse vs.reverse
 | [],_,h=>by cases (show _=_ from h);rfl
 | x::xs,_,⟨v,ws,e,r,rs⟩=>by
  subst e
  rw[List.reverse_cons,(List.reverse_cons)]
  exact (kQ7 rs).append ⟨v,[],rfl,r,rfl⟩
end
section
variable {X:Cx}
end
section
variable {X:Cx} {pos:Pos}
end
theorem szle {n:Nat} (h:Nat.ble n 16777216=true):n<=sizeLine:=by rw[PySem.sizeLine_eq];exact Nat.le_of_ble_eq_true h
end L3
namespace L3
theorem xe1 {A0:Type} {σ:Type} {f:A0->σ} {p:A0->Prop} {τ:σ} {C:σ->Prop} (h:∃a0,τ=f a0/\p a0) (k:∀a0,p a0->C (f a0)):C τ:=by
 obtain⟨a0,e,h⟩:=h;rw[e];exact k _ h
theorem xe2 {A0 A1:Type} {σ:Type} {f:A0->A1->σ} {p:A0->A1->Prop} {τ:σ} {C:σ->Prop} (h:∃a0 a1,τ=f a0 a1/\p a0 a1) (k:∀a0 a1,p a0 a1->C (f a0 a1)):C τ:=by
 obtain⟨a0,a1,e,h⟩:=h;rw[e];exact k _ _ h
theorem xi2 {A0 A1:Type} {σ:Type} {f:A0->A1->σ} {p:A0->A1->Prop} {τ:σ} (a0:A0) (a1:A1) (e:τ=f a0 a1) (h:p a0 a1):∃a0 a1,τ=f a0 a1/\p a0 a1:=⟨a0,a1,e,h⟩
theorem xe3 {A0 A1 A2:Type} {σ:Type} {f:A0->A1->A2->σ} {p:A0->A1->A2->Prop} {τ:σ} {C:σ->Prop} (h:∃a0 a1 a2,τ=f a0 a1 a2/\p a0 a1 a2) (k:∀a0 a1 a2,p a0 a1 a2->C (f a0 a1 a2)):C τ:=by
 obtain⟨a0,a1,a2,e,h⟩:=h;rw[e];exact k _ _ _ h
theorem xi3 {A0 A1 A2:Type} {σ:Type} {f:A0->A1->A2->σ} {p:A0->A1->A2->Prop} {τ:σ} (a0:A0) (a1:A1) (a2:A2) (e:τ=f a0 a1 a2) (h:p a0 a1 a2):∃a0 a1 a2,τ=f a0 a1 a2/\p a0 a1 a2:=⟨a0,a1,a2,e,h⟩
theorem xe4 {A0 A1 A2 A3:Type} {σ:Type} {f:A0->A1->A2->A3->σ} {p:A0->A1->A2->A3->Prop} {τ:σ} {C:σ->Prop} (h:∃a0 a1 a2 a3,τ=f a0 a1 a2 a3/\p a0 a1 a2 a3) (k:∀a0 a1 a2 a3,p a0 a1 a2 a3->C (f a0 a1 a2 a3)):C τ:=by
 obtain⟨a0,a1,a2,a3,e,h⟩:=h;rw[e];exact k _ _ _ _ h
theorem xi4 {A0 A1 A2 A3:Type} {σ:Type} {f:A0->A1->A2->A3->σ} {p:A0->A1->A2->A3->Prop} {τ:σ} (a0:A0) (a1:A1) (a2:A2) (a3:A3) (e:τ=f a0 a1 a2 a3) (h:p a0 a1 a2 a3):∃a0 a1 a2 a3,τ=f a0 a1 a2 a3/\p a0 a1 a2 a3:=⟨a0,a1,a2,a3,e,h⟩
theorem xe5 {A0 A1 A2 A3 A4:Type} {σ:Type} {f:A0->A1->A2->A3->A4->σ} {p:A0->A1->A2->A3->A4->Prop} {τ:σ} {C:σ->Prop} (h:∃a0 a1 a2 a3 a4,τ=f a0 a1 a2 a3 a4/\p a0 a1 a2 a3 a4) (k:∀a0 a1 a2 a3 a4,p a0 a1 a2 a3 a4->C (f a0 a1 a2 a3 a4)):C τ:=by
 obtain⟨a0,a1,a2,a3,a4,e,h⟩:=h;rw[e];exact k _ _ _ _ _ h
theorem xe6 {A0 A1 A2 A3 A4 A5:Type} {σ:Type} {f:A0->A1->A2->A3->A4->A5->σ} {p:A0->A1->A2->A3->A4->A5->Prop} {τ:σ} {C:σ->Prop} (h:∃a0 a1 a2 a3 a4 a5,τ=f a0 a1 a2 a3 a4 a5/\p a0 a1 a2 a3 a4 a5) (k:∀a0 a1 a2 a3 a4 a5,p a0 a1 a2 a3 a4 a5->C (f a0 a1 a2 a3 a4 a5)):C τ:=by
 obtain⟨a0,a1,a2,a3,a4,a5,e,h⟩:=h;rw[e];exact k _ _ _ _ _ _ h
theorem xi6 {A0 A1 A2 A3 A4 A5:Type} {σ:Type} {f:A0->A1->A2->A3->A4->A5->σ} {p:A0->A1->A2->A3->A4->A5->Prop} {τ:σ} (a0:A0) (a1:A1) (a2:A2) (a3:A3) (a4:A4) (a5:A5) (e:τ=f a0 a1 a2 a3 a4 a5) (h:p a0 a1 a2 a3 a4 a5):∃a0 a1 a2 a3 a4 a5,τ=f a0 a1 a2 a3 a4 a5/\p a0 a1 a2 a3 a4 a5:=⟨a0,a1,a2,a3,a4,a5,e,h⟩
theorem xe7 {A0 A1 A2 A3 A4 A5 A6:Type} {σ:Type} {f:A0->A1->A2->A3->A4->A5->A6->σ} {p:A0->A1->A2->A3->A4->A5->A6->Prop} {τ:σ} {C:σ->Prop} (h:∃a0 a1 a2 a3 a4 a5 a6,τ=f a0 a1 a2 a3 a4 a5 a6/\p a0 a1 a2 a3 a4 a5 a6) (k:∀a0 a1 a2 a3 a4 a5 a6,p a0 a1 a2 a3 a4 a5 a6->C (f a0 a1 a2 a3 a4 a5 a6)):C τ:=by
 obtain⟨a0,a1,a2,a3,a4,a5,a6,e,h⟩:=h;rw[e];exact k _ _ _ _ _ _ _ h
theorem xi7 {A0 A1 A2 A3 A4 A5 A6:Type} {σ:Type} {f:A0->A1->A2->A3->A4->A5->A6->σ} {p:A0->A1->A2->A3->A4->A5->A6->Prop} {τ:σ} (a0:A0) (a1:A1) (a2:A2) (a3:A3) (a4:A4) (a5:A5) (a6:A6) (e:τ=f a0 a1 a2 a3 a4 a5 a6) (h:p a0 a1 a2 a3 a4 a5 a6):∃a0 a1 a2 a3 a4 a5 a6,τ=f a0 a1 a2 a3 a4 a5 a6/\p a0 a1 a2 a3 a4 a5 a6:=⟨a0,a1,a2,a3,a4,a5,a6,e,h⟩
theorem xe8 {A0 A1 A2 A3 A4 A5 A6 A7:Type} {σ:Type} {f:A0->A1->A2->A3->A4->A5->A6->A7->σ} {p:A0->A1->A2->A3->A4->A5->A6->A7->Prop} {τ:σ} {C:σ->Prop} (h:∃a0 a1 a2 a3 a4 a5 a6 a7,τ=f a0 a1 a2 a3 a4 a5 a6 a7/\p a0 a1 a2 a3 a4 a5 a6 a7) (k:∀a0 a1 a2 a3 a4 a5 a6 a7,p a0 a1 a2 a3 a4 a5 a6 a7->C (f a0 a1 a2 a3 a4 a5 a6 a7)):C τ:=by
 obtain⟨a0,a1,a2,a3,a4,a5,a6,a7,e,h⟩:=h;rw[e];exact k _ _ _ _ _ _ _ _ h
theorem xi8 {A0 A1 A2 A3 A4 A5 A6 A7:Type} {σ:Type} {f:A0->A1->A2->A3->A4->A5->A6->A7->σ} {p:A0->A1->A2->A3->A4->A5->A6->A7->Prop} {τ:σ} (a0:A0) (a1:A1) (a2:A2) (a3:A3) (a4:A4) (a5:A5) (a6:A6) (a7:A7) (e:τ=f a0 a1 a2 a3 a4 a5 a6 a7) (h:p a0 a1 a2 a3 a4 a5 a6 a7):∃a0 a1 a2 a3 a4 a5 a6 a7,τ=f a0 a1 a2 a3 a4 a5 a6 a7/\p a0 a1 a2 a3 a4 a5 a6 a7:=⟨a0,a1,a2,a3,a4,a5,a6,a7,e,h⟩
theorem ae2 {a0 a1 C:Prop} (h:a0/\a1) (k:a0->a1->C):C:=k h.1 h.2
theorem ae3 {a0 a1 a2 C:Prop} (h:a0/\a1/\a2) (k:a0->a1->a2->C):C:=k h.1 h.2.1 h.2.2
theorem ae4 {a0 a1 a2 a3 C:Prop} (h:a0/\a1/\a2/\a3) (k:a0->a1->a2->a3->C):C:=k h.1 h.2.1 h.2.2.1 h.2.2.2
theorem ae5 {a0 a1 a2 a3 a4 C:Prop} (h:a0/\a1/\a2/\a3/\a4) (k:a0->a1->a2->a3->a4->C):C:=k h.1 h.2.1 h.2.2.1 h.2.2.2.1 h.2.2.2.2
theorem ae6 {a0 a1 a2 a3 a4 a5 C:Prop} (h:a0/\a1/\a2/\a3/\a4/\a5) (k:a0->a1->a2->a3->a4->a5->C):C:=k h.1 h.2.1 h.2.2.1 h.2.2.2.1 h.2.2.2.2.1 h.2.2.2.2.2
theorem ae7 {a0 a1 a2 a3 a4 a5 a6 C:Prop} (h:a0/\a1/\a2/\a3/\a4/\a5/\a6) (k:a0->a1->a2->a3->a4->a5->a6->C):C:=k h.1 h.2.1 h.2.2.1 h.2.2.2.1 h.2.2.2.2.1 h.2.2.2.2.2.1 h.2.2.2.2.2.2
theorem ae8 {a0 a1 a2 a3 a4 a5 a6 a7 C:Prop} (h:a0/\a1/\a2/\a3/\a4/\a5/\a6/\a7) (k:a0->a1->a2->a3->a4->a5->a6->a7->C):C:=k h.1 h.2.1 h.2.2.1 h.2.2.2.1 h.2.2.2.2.1 h.2.2.2.2.2.1 h.2.2.2.2.2.2.1 h.2.2.2.2.2.2.2
theorem ae9 {a0 a1 a2 a3 a4 a5 a6 a7 a8 C:Prop} (h:a0/\a1/\a2/\a3/\a4/\a5/\a6/\a7/\a8) (k:a0->a1->a2->a3->a4->a5->a6->a7->a8->C):C:=k h.1 h.2.1 h.2.2.1 h.2.2.2.1 h.2.2.2.2.1 h.2.2.2.2.2.1 h.2.2.2.2.2.2.1 h.2.2.2.2.2.2.2.1 h.2.2.2.2.2.2.2.2
theorem ae10 {a0 a1 a2 a3 a4 a5 a6 a7 a8 a9 C:Prop} (h:a0/\a1/\a2/\a3/\a4/\a5/\a6/\a7/\a8/\a9) (k:a0->a1->a2->a3->a4->a5->a6->a7->a8->a9->C):C:=k h.1 h.2.1 h.2.2.1 h.2.2.2.1 h.2.2.2.2.1 h.2.2.2.2.2.1 h.2.2.2.2.2.2.1 h.2.2.2.2.2.2.2.1 h.2.2.2.2.2.2.2.2.1 h.2.2.2.2.2.2.2.2.2
end L3
namespace L3
open PySem PySem.Spec PyProof.Rows L2
theorem jVf:fillsNumberSlot (.type "tuple") "mul"=pure false:=
 PySem.fillsNumberSlot_seq (id:="tuple.__mul__") (r:=some (.builtin "tuple.__rmul__")) PySem.F.slot_tuple_mul.lookup (by decide +kernel) PySem.F.slot_tuple_rmul.lookup (by decide +kernel)
theorem jY7:seqRepeat? (.type "tuple")=pure (some (.builtin "tuple.__mul__")):=by
 unfold seqRepeat?
 rw[PySem.seqSlot_of (T:="tuple") (name:="__mul__") (id:="tuple.__mul__") PySem.F.slot_tuple_mul.lookup (by decide +kernel),PySem.seqSlot_of (T:="tuple") (name:="__rmul__") (id:="tuple.__rmul__") PySem.F.slot_tuple_rmul.lookup (by decide +kernel)]
 rfl
theorem jXl (a:Int) (t:Tok) (l:Addr) (items:Array Value) (n:Nat) (dd:Option Addr) (sl:Array (Option Value)):
  Meets (Builtin.«int.__rmul__» ⟨[.int a t,.ref l],[]⟩) (fun _ R s=>s.heap.get? l=some {cls:= .type "tuple",dict:=dd,data:= .seq items n,slots:=sl}/\R (.ok (.ret Value.notImplemented)) s):=
 .of_wp fun prog w A R s h=>by obtain⟨hp,g,d,tk,os⟩:=(s);obtain⟨hl,h⟩:=h;wp_walk;exact⟨_,rfl,h⟩
theorem jYn (t:Tok) (l:Addr) (items:Array Value) (n:Nat) (dd:Option Addr) (sl:Array (Option Value)):
  Meets (Builtin.«tuple.__mul__» ⟨[.ref l,.int 1 t],[]⟩) (fun _ R s=>s.heap.get? l=some {cls:= .type "tuple",dict:=dd,data:= .seq items n,slots:=sl}/\R (.ok (.ret (.ref l))) s):=
 .of_wp fun prog w A R s h=>by
  obtain⟨hp,g,d,tk,os⟩:=(s);obtain⟨hl,h⟩:=h
  wp_walk
  exact⟨_,rfl,h⟩
theorem jXq (k:Int) (t:Tok) (l:Addr) (items:Array Value) (n:Nat) (dd:Option Addr) (sl:Array (Option Value)) (h1:¬ (k< -(2^63)||k>=2^63)=true) (h2:¬ (items.isEmpty||k == 1)=true) (h3:¬ (decide (k<=0)||items.isEmpty)=true) (h4:¬ items.size*k>(2^63-1) / 8) (h5:¬ Builtin.Tuple.tupleTooMany (items.size*k)=true) (h6:¬ ((List.replicate k.toNat items).foldl (· ++ ·) #[]).size>sizeLine):
  Meets (Builtin.«tuple.__mul__» ⟨[.ref l,.int k t],[]⟩) (fun _ R s=>s.heap.get? l=some {cls:= .type "tuple",dict:=dd,data:= .seq items n,slots:=sl}/\R (.ok (.ret (.ref s.heap.objs.size))) {s with heap:=s.heap.push {cls:= .type "tuple",data:= .seq ((List.replicate k.toNat items).foldl (· ++ ·) #[])} }):=
 .of_wp fun prog w A R s h=>by
  obtain⟨hp,g,d,tk,os⟩:=(s);obtain⟨hl,h⟩:=h
  wp_walk
  rw[if_neg h1];wp_walk
  rw[if_neg h4];wp_walk
  exact⟨_,rfl,h⟩
section
variable {X:Cx}
def rMulT:R3:=fun x y G Q=>∃xs k,x= .tup xs/\y= .int k/\xs≠[]/\1<=k/\k<2^40/\k.toNat * xs.length<=sizeLine/\Q (.tup (List.replicate k.toNat xs).flatten) G
theorem o_mulT:Op3 X (binaryOp .Mult) rMulT:=by
 rintro pins s τ G H x y v u Q ⟨σ,I,hs,hg⟩ ⟨a,ra,rv⟩ ⟨b,rb,ru⟩ ⟨xs,k,ex,ey,hne,hk1,hk2,hz,q⟩
 subst ex;subst ey
 obtain⟨pa,vs,rfl,h1,r1⟩:=(show ∃p vs,a= .ref p/\H p=some (.tup vs)/\Reps X.K H xs vs from ra)
 cases (show b= .int k from rb)
 cases rv
 obtain⟨t,rfl⟩:=ru
 obtain⟨its,q1,p1,_⟩:=I.tuple (.of h1)
 have l1:=r1.length
 have l2:=q1.length
 obtain⟨m,hm⟩:=Int.eq_ofNat_of_zero_le (show 0<=k by omega)
 have em:k.toNat=m:=by omega
 rw[em] at hz q
 have hsl:(sizeLine:Nat)=16777216:=PySem.sizeLine_eq
 have hzi:(its.toArray.size:Int)*k=((m*xs.length:Nat):Int):=by rw[hm,List.size_toArray,<-l2,<-l1,<-Int.natCast_mul,Nat.mul_comm]
 obtain⟨⟨cls,dd,data,sl⟩,ho,hc,n,hd⟩:=id p1
 simp only at hc hd
 subst hc hd
 have hxl:0<its.length:=by
  rcases Nat.eq_zero_or_pos its.length with z | z
  ·exact absurd (List.length_eq_zero_iff.mp (by omega)) hne
  ·exact z
 refine wpAny_binaryOp_repeat_ref (T:="tuple") (U:="int") (by decide) ⟨_,ho,rfl⟩ (fun s'=>typeIs_int s' k t) jVf PySem.F.fills_int_mul PySem.F.slot_int_rmul jY7 PySem.F.slot_int_index.lookup
  (call_meets PySem.F.slot_int_rmul (typeIs_int s k t) PySem.F.entry_int_rmul (PySem.F.args_int_rmul_2 _ _) (jXl k t pa its.toArray n dd sl) ⟨ho,rfl,⟨_,ho,rfl⟩,?_⟩)
 by_cases e1:k=1
 ·subst e1
  refine call_meets PySem.F.slot_tuple_mul ⟨_,ho,rfl⟩ PySem.F.entry_tuple_mul (PySem.F.args_tuple_mul_2 _ _) (jYn t pa its.toArray n dd sl) ⟨ho,?_⟩
  exact⟨_,G,H,.refl H,⟨σ,I,hs,hg⟩,⟨.ref pa,ra,rfl⟩,by rw[show m=1 by omega] at q;simpa using q⟩
 ·have f0:List.foldl (fun x1 x2=>x1++x2) #[] (List.replicate k.toNat its.toArray)=(List.replicate k.toNat its).flatten.toArray:=by
   have:=jXc its k.toNat []
   rw[List.nil_append] at this
   exact this
  refine call_meets PySem.F.slot_tuple_mul ⟨_,ho,rfl⟩ PySem.F.entry_tuple_mul (PySem.F.args_tuple_mul_2 _ _) (jXq k t pa its.toArray n dd sl ?_ ?_ ?_ ?_ ?_ ?_) ⟨ho,?_⟩
  ·rw[Bool.or_eq_true];rintro (h | h)<;>(have:=of_decide_eq_true h;omega)
  ·rw[Bool.or_eq_true];rintro (h | h)
   ·have:its=[]:=by simpa using h
    rw[this] at hxl;exact absurd hxl (Nat.lt_irrefl _)
   ·exact e1 (by simpa using h)
  ·rw[Bool.or_eq_true];rintro (h | h)
   ·have:=of_decide_eq_true h;omega
   ·have:its=[]:=by simpa using h
    rw[this] at hxl;exact absurd hxl (Nat.lt_irrefl _)
  ·rw[hzi];omega
  ·rw[hzi];simp[Builtin.Tuple.tupleTooMany];omega
  ·rw[em] at f0 ⊢
   rw[f0,List.size_toArray,kJp,<-l2,<-l1];omega
  ·rw[f0,em]
   have hz2:(List.replicate m vs).flatten.length<=sizeLine:=by rw[kJp,<-l1];exact hz
   have Il:=I.laid (t':=s.toks) (o:= .tup (List.replicate m vs).flatten) (fun b ob q=>Heap.get?_push_of_some _ q) (Nat.le_refl _) ⟨hz2,_,q1.rep m,TupD.new _ _⟩
   refine jUb hs ⟨.ref _,_,Il,rfl,?_⟩
   have hfr:=I.hok.fresh (Nat.le_refl s.heap.objs.size)
   exact⟨.tup (List.replicate m xs).flatten,G,.upd (.none hfr),hg.tupNew hfr,Rep.tupNew (r1.rep m) hfr,q⟩
def jZa:R3:=fun x y G Q=>jQy x y G Q\/rMulT x y G Q
theorem kUq:Op3 X (binaryOp .Mult) jZa:=o_mulF.or o_mulT
end
section
variable {X:Cx}
noncomputable def rCatS (K:PySem.W.Frag):R2:=fun x y H Q=>∃l b xs zs,x= .ref l/\y= .ref b/\SqL K H l xs/\SqL K H b zs/\xs.length+zs.length<=sizeLine/\∀p,H p=none->Q (.ref p) (upd H p (.lst (xs++zs)))
theorem kZ2:OpR X (binaryOp .Add) (rCatS X.K):=by
 intro pins s σ H x y v u Q I rx ry h
 obtain⟨l,b,xs,zs,rfl,rfl,hH,hB,hz,q⟩:=h
 cases rx
 cases ry
 obtain⟨its,r,⟨⟨cls,dd,data,sl⟩,n,e,hc,_,hd⟩,_⟩:=I.list hH
 obtain⟨its2,r2,⟨⟨cls2,dd2,data2,sl2⟩,n2,e2,hc2,_,hd2⟩,_⟩:=I.list hB
 simp only at hc hd hc2 hd2
 subst hc hd hc2 hd2
 have l1:=r.length
 have l2:=r2.length
 refine concat_meets ⟨_,e,rfl⟩ ⟨_,e2,rfl⟩ noFill_list_add seq_list_add PySem.F.slot_list_add PySem.F.entry_list_add (PySem.F.args_list_add_2 _ _) (list_addW l b its.toArray its2.toArray n n2 dd dd2 sl sl2 (by rw[List.size_toArray,List.size_toArray];omega)) ⟨e,e2,?_⟩
 have ea:its.toArray++its2.toArray=(its++its2).toArray:=by simp
 rw[ea]
 exact⟨.ref _,_,I.lnew (t':=s.toks) (r.append r2) (by rw[List.length_append];omega),rfl,q _ I.fresh⟩
def rAddS:R3:=fun x y G Q=>match x with
 | .scr xs=>∃ys,jK0 G y=some ys/\xs.length+ys.length<=sizeLine/\∀l,G l=none->Q (.ref l) (gup G l (.lst (xs++ys)))
 | _=>jJz x y G Q
theorem o_addS:Op3 X (binaryOp .Add) rAddS:=by
 have hc:Op3 X (binaryOp .Add) fun x y G Q=>∃xs ys,x= .scr xs/\jK0 G y=some ys/\xs.length+ys.length<=sizeLine/\∀l,G l=none->Q (.ref l) (gup G l (.lst (xs++ys))):=
  Op3.of kZ2 fun H G x y a b Q hg ra rb ⟨xs,ys,ex,hy,hz,h⟩=>by
   subst ex
   obtain⟨p,vs,rfl,h1,h2⟩:=jK9 hg ra (show jK0 G (.scr xs)=some xs from rfl)
   obtain⟨q,ws,rfl,h3,h4⟩:=jK9 hg rb hy
   exact⟨p,q,vs,ws,rfl,rfl,h1,h3,by rw[<-h2.length,<-h4.length];exact hz,fun l hl=>⟨.ref l,_,.upd (.none hl),hg.lstNew (h2.append h4) (.none hl),rfl,h l (hg.fresh hl)⟩⟩
 refine (o_addF.or hc).imp fun x y G Q h=> ?_
 cases x with
 | scr xs=>obtain⟨ys,h1,h2,h3⟩:=h;exact .inr ⟨xs,ys,rfl,h1,h2,h3⟩
 | _=>exact .inl h
end
section
variable {X:Cx}
end
section
variable {P:Program} {w:World} {A:Around} {E:Value->Shared->Prop} {s:Shared} {d it:Addr} {o:Obj} {es:Array DictEntry} {ep i:Nat}
end
section
variable {X:Cx}
end
def CN (K:PySem.W.Frag) (cn:Str) (C:Addr):Prop:=PySem.W.nsIn K mainGlobals cn=some (some (.ref C))
theorem CN.one {K:PySem.W.Frag} {cn:Str} {C D:Addr} (h:CN K cn C) (h':CN K cn D):C=D:=by
 unfold CN at h h';rw[h] at h';cases h';rfl
section
variable {X:Cx} {cn f m:Str} {pos pos' apos p:Pos} {e o value:Expr} {es:List Expr} {ta tv:TE3} {t:TA3} {k:Nat} {ps:List Str} {sp:Sp3}
end
end L3
namespace L3
open PySem PySem.Spec PyProof.Rows L2 PySem.W
structure Lies (P:Program) (w:World) (outer:List Env) (H:Hp) (s:Shared) (a C:Addr) (B:Heap) (a0:Value) (H':Hp) (s':Shared):Prop where
 os:s'.os=s.os
 bare:AllBare s'.gens
 fly:Heap.FlyingW B outer a (.ref C) a0 s'.heap
 hok:HOk P w H' B
 keep:∀b o,s.heap.get? b=some o->H b=none->b∉frs outer->B.get? b=some o
 there:∀b o,s.heap.get? b=some o->b∉frs outer->∃o',B.get? b=some o'
 slot:∀b o,s.heap.get? b=some o->b∈frs outer->∃sl,s'.heap.get? b=some {o with slots:=sl}
 free:∀b o,s.heap.get? b=some o->H b=none->H' b=none
 tups:∀b xs,H b=some (.tup xs)->H' b=some (.tup xs)
 frzs:∀b o u,H b=some (.frz o u)->H' b=some (.frz o u)
 tbls:∀b ps,H b=some (.tbl ps)->∃more,H' b=some (.tbl (ps++more))
section
variable {P:Program} {w:World} {outer:List Env} {H H':Hp} {s s':Shared} {a C:Addr} {B:Heap} {a0:Value}
theorem Lies.un (l:Lies P w outer H s a C B a0 H' s'):Un (frs outer) [] H H' s.heap s'.heap where
 keep:=fun b o h n f _=>l.fly.1 b o (l.keep b o h n f)
 slot:=fun b o h _ f _=>l.slot b o h f
 free:=fun b o h n _=>l.free b o h n
 there:=fun b o h _=>by
  by_cases f:b∈frs outer
  ·obtain⟨sl,e⟩:=l.slot b o h f
   exact⟨_,e⟩
  ·obtain⟨o',e⟩:=l.there b o h f
   exact⟨o',l.fly.1 b o' e⟩
 tups:=l.tups
 frzs:=l.frzs
 tbls:=l.tbls
theorem kUi {P:Program} {w:World} {H:Hp} {h:Heap} {a:Addr} {o:HO} (x:ObjOk P w H h a o):∃u,h.get? a=some u:=by
 induction o with
 | lst xs=>obtain⟨z,its,n,r,e⟩:=x;exact⟨_,e⟩
 | tup xs=>obtain⟨z,its,r,ob,e,c⟩:=x;exact⟨_,e⟩
 | dK kvs=>obtain⟨z,y,vs,r,ob,es,ep,e,c⟩:=x;exact⟨_,e⟩
 | dT kvs=>obtain⟨z,y,xs,r,ob,es,ep,e,c⟩:=x;exact⟨_,e⟩
 | set S n=>obtain⟨ob,es,ep,t,e,c⟩:=x;exact⟨_,e⟩
 | ins C dx fs=>obtain⟨d,z,ne,e,_⟩:=x;exact⟨_,e⟩
 | own y=>exact x
 | xd fs=>obtain⟨mA,⟨od,es,ep,e,c⟩,r⟩:=x;exact⟨_,e⟩
 | rng lo hi=>obtain⟨t,u,v,e⟩:=x;exact⟨_,e⟩
 | frz ob u ih=>obtain⟨e,q⟩:=x;exact⟨_,e⟩
 | tbl ps=>exact⟨_,x⟩
 | met f y=>exact⟨_,x⟩
 | ext φ=>obtain⟨p,e,st⟩:=x;exact e
theorem Lies.na (l:Lies P w outer H s a C B a0 H' s'):H' a=none:=by
 cases e:H' a with
 | none=>rfl
 | some o=>
  obtain⟨u,hu⟩:=kUi (l.hok a o e)
  rw[l.fly.2.1] at hu;cases hu
end
section
variable {X:Cx} {pins:List (Addr×Obj)} {σ:L2.St} {H H':Hp} {s s':Shared} {a C:Addr} {B:Heap} {a0:Value} {E:Value->Shared->Prop}
theorem qJp {l:List Env}:∀env∈l,∀b,env.frame=some b->b∈frs l:=fun env he b hb=>List.mem_filterMap.mpr ⟨env,he,hb⟩
theorem kXz (I:Inv X pins σ H s) (hs:X.stack=X.env::X.outer) (hf:X.env.frame=some X.env.locals) (hex:X.ex=[]) {args:List Value} (hm:Heap.MadeExcOf s.heap s'.heap a (.ref C) args) (ho:s'.os=s.os) (hg:s'.gens=s.gens) {Q:Unit->Shared->Prop}
  (k:∀B a0 h',Lies X.prog X.w X.outer X.H₀ X.s₀ a C B a0 H {s' with heap:=h'}->Q () {s' with heap:=h'}):wpAny (model X.prog X.w) X.A (leaving X.env (.ref a)) Q E s':=by
 have hst:=I.stack
 have hfr:X.A.frames=some (X.env::X.outer):=by rw[I.ok.frames,hs]
 rw[hs] at hst
 have sub:∀b,b∈frs (X.env::X.outer)↔b=X.env.locals\/b∈frs X.outer:=fun b=>by
  unfold frs;rw[List.filterMap_cons,hf];exact List.mem_cons
 have inB:∀b o,s.heap.get? b=some o->b≠X.env.locals->b∉frs X.outer->(hideAll s.heap (frs (X.env::X.outer))).get? b=some o:=fun b o h n f=>
  hideAll_get _ h fun z=>((sub b).mp z).elim n f
 have nex:∀b,b∉X.ex:=fun b=>by rw[hex];exact List.not_mem_nil
 have old:∀b o,X.s₀.heap.get? b=some o->b≠X.env.locals:=fun b o h z=>by
  rw[z] at h;exact absurd (Heap.lt_size h) (Nat.not_lt.mpr I.ok.above)
 refine wpAny_leaves_madeW hfr hf (fun b o h=>of_hideAll _ h) (funFrames_hide hst fun env he b hb=>qJp env he b hb) hm fun h' t fl tp nt up=> ?_
 refine k (hideAll s.heap (frs (X.env::X.outer))) (.ref t) h' ⟨ho.trans I.os,by rw[show ({s' with heap:=h'}:Shared).gens=s.gens from hg];exact I.bare,fl,?_,?_,?_,?_,fun b o h n=>I.base.free b o h n (nex b),I.base.tups,I.base.frzs,I.base.tbls⟩
 ·intro b o e
  refine (I.hok b o e).stay (fun c u hc h=>hideAll_get _ h fun z=> ?_) (fun _ q=>q) fun _ _ q=>q
  have hn:=I.stkFree c (by rw[hs];exact z)
  rcases hc with rfl | hc
  ·rw[e] at hn;cases hn
  ·rw[hc] at hn;cases hn
 ·intro b o h n f
  exact inB b o (I.base.keep b o h n f (nex b)) (old b o h) f
 ·intro b o h f
  obtain⟨o',h'⟩:=I.base.there b o h (nex b)
  exact⟨o',inB b o' h' (old b o h) f⟩
 ·intro b o h f
  obtain⟨sl,e1⟩:=I.base.slot b o h (I.ok.frf b f) f (nex b)
  obtain⟨_,o',ho',hd⟩:=I.funs.mem f
  rw[e1] at ho'
  cases ho'
  obtain⟨sl',e2⟩:=(Heap.UpToSlots.of_keeps hm.keeps).trans up b _ e1 hd
  exact⟨sl',e2⟩
theorem qJc (I:Inv X pins σ H s) (hs:X.stack=X.env::X.outer) (hf:X.env.frame=some X.env.locals) (hex:X.ex=[]) (l:Lies X.prog X.w X.stack H s a C B a0 H' s') {Q:Unit->Shared->Prop}
  (k:∀h',Lies X.prog X.w X.outer X.H₀ X.s₀ a C B a0 H' {s' with heap:=h'}->Q () {s' with heap:=h'}):wpAny (model X.prog X.w) X.A (leaving X.env (.ref a)) Q E s':=by
 have hfr:X.A.frames=some (X.env::X.outer):=by rw[I.ok.frames,hs]
 have sub:∀b,b∈frs X.stack↔b=X.env.locals\/b∈frs X.outer:=fun b=>by
  rw[hs];unfold frs;rw[List.filterMap_cons,hf];exact List.mem_cons
 have nex:∀b,b∉X.ex:=fun b=>by rw[hex];exact List.not_mem_nil
 have old:∀b o,X.s₀.heap.get? b=some o->b≠X.env.locals:=fun b o h z=>by
  rw[z] at h;exact absurd (Heap.lt_size h) (Nat.not_lt.mpr I.ok.above)
 have nst:∀b o,X.s₀.heap.get? b=some o->b∉frs X.outer->b∉frs X.stack:=fun b o h f z=>((sub b).mp z).elim (old b o h) f
 refine wpAny_leaves_onW hfr hf (by rw[<-hs];exact l.fly) fun h' fl up=>k h' ⟨l.os.trans I.os,l.bare,fl,l.hok,?_,?_,?_,?_,?_,?_,?_⟩
 ·intro b o h n f
  exact l.keep b o (I.base.keep b o h n f (nex b)) (I.base.free b o h n (nex b)) (nst b o h f)
 ·intro b o h f
  obtain⟨o',e⟩:=I.base.there b o h (nex b)
  exact l.there b o' e (nst b o h f)
 ·intro b o h f
  obtain⟨sl,e1⟩:=I.base.slot b o h (I.ok.frf b f) f (nex b)
  obtain⟨sl',e2⟩:=l.slot b _ e1 ((sub b).mpr (.inr f))
  obtain⟨_,o',ho',hd⟩:=I.funs.mem f
  rw[e1] at ho'
  cases ho'
  obtain⟨sl3,e3⟩:=up b _ e2 hd
  exact⟨sl3,e3⟩
 ·intro b o h n
  obtain⟨o',e⟩:=I.base.there b o h (nex b)
  exact l.free b o' e (I.base.free b o h n (nex b))
 ·exact fun b xs h=>l.tups b xs (I.base.tups b xs h)
 ·exact fun b o u h=>l.frzs b o u (I.base.frzs b o u h)
 ·intro b ps h
  obtain⟨m1,e1⟩:=I.base.tbls b ps h
  obtain⟨m2,e2⟩:=l.tbls b _ e1
  exact⟨m1++m2,by rw[e2,Array.append_assoc]⟩
theorem kUv (I:Inv X pins σ H s) (l:Lies X.prog X.w X.stack H s a C B a0 H' s') (hs:X.stack=X.env::X.outer) (hf:X.env.frame=some X.env.locals) {Q:Unit->Shared->Prop}
  (k:∀h',Inv X pins σ H' {s' with heap:=h'}->Lies X.prog X.w X.stack H s a C B a0 H' {s' with heap:=h'}->Q () {s' with heap:=h'}):
  wpAny (model X.prog X.w) X.A (noteFrame (.ref a) X.env) (fun _ s2=>wpAny (model X.prog X.w) X.A (setFlight (.ref a) none) Q E s2) E s':=by
 have hfr:X.A.frames=some (X.env::X.outer):=by rw[I.ok.frames,hs]
 refine wpAny_looks_onW hfr hf (by rw[<-hs];exact l.fly) fun h1 hd up1=> ?_
 refine wpAny_landsW (s:={s' with heap:=h1}) hd fun h2 fl up2=> ?_
 have l2:Lies X.prog X.w X.stack H s a C B a0 H' {s' with heap:=h2}:=by
  refine⟨l.os,l.bare,by rw[hs];exact fl,l.hok,l.keep,l.there,fun b o h f=> ?_,l.free,l.tups,l.frzs,l.tbls⟩
  obtain⟨sl,e⟩:=l.slot b o h f
  obtain⟨_,o',ho',hd'⟩:=I.stack.mem f
  rw[h] at ho'
  cases ho'
  obtain⟨sl2,e2⟩:=(up1.trans up2) b _ e hd'
  exact⟨sl2,e2⟩
 exact k h2 (I.call' l2.os l2.un (l2.hok.kept fun b u e=>l2.fly.1 b u e) l2.bare fun b z=>absurd z List.not_mem_nil) l2
end
abbrev XK3:=Str->Gp->Prop
abbrev SpX:=List T->Gp->VK3->XK3->Prop
def vmro:List Value:=[.type "ValueError",.type "Exception",.type "BaseException",.type "object"]
structure ExC (K:PySem.W.Frag) (mg:Str->Option Value) (cn:Str):Prop where
 ex:∃C,CN K cn C/\mg cn=some (.ref C)/\excIn K C vmro "ValueError.__new__"=true
theorem exc_at {K:PySem.W.Frag} {C:Addr} {bmB:List Value} {newId:String} (q:excIn K C bmB newId=true):
  ∃bm N nm qn bs hdct sn sub ab col dd k0 k1 k2 k3 k5,K.lookup C=some (excClassObj nm qn C N bs bm hdct sn sub ab col dd k0 k1 k2 k3 k5 newId)/\nsOkIn K N=true/\nsIn K N "__init__"=some none/\tailIn K bmB bm=true:=by
 unfold excIn at q
 split at q
 ·rename_i dd cd sl ho
  split at q
  ·rename_i C' bm k0 k1 k2 k3 n k5 hm hs
   (simp only[Bool.and_eq_true,beq_iff_eq,Bool.not_eq_true'] at q)
   obtain⟨⟨⟨⟨⟨rfl,rfl⟩,z⟩,ht⟩,hok⟩,hni⟩:=q
   (obtain⟨nm,bs,mro,ns,qn,hd,sn,sub,ab,col,del⟩:=cd)
   dsimp only at hm z hok hni
   subst hm z
   have e:sl= #[k0,k1,k2,k3,some (.builtin n),k5]:=by
    obtain⟨l⟩:=sl
    simp only at hs
    rw[hs]
   subst e
   exact⟨bm,ns,nm,qn,bs,hd,sn,sub,ab,col,dd,k0,k1,k2,k3,k5,ho,hok,hni,ht⟩
  ·cases q
 ·cases q
theorem kZ9 {K:PySem.W.Frag} {h h':Heap} {N:Addr} {m:Str->Option Value} (X:K.In h) (X':K.In h') (e:nsOkIn K N=true) (hn:h.Ns N m):h'.Ns N m:=by
 unfold nsOkIn at e
 split at e
 ·rename_i ho
  obtain⟨o,es,ep,h1,r⟩:=hn
  have:=X _ _ ho
  rw[h1] at this
  cases this
  exact⟨_,es,ep,X' _ _ ho,r⟩
 ·cases e
theorem kQv {h:Heap} {bm:List Value} (t:OwnTail h vmro bm):bm.contains (.type "BaseException")=true:=t.hasType (by decide)
def CXX (P:Program) (w:World):CXT:=fun outer H s E e s'=>∃a C B a0 H',e= .ref a/\Lies P w outer H s a C B a0 H' s'/\E e (some C) H'
structure XR (X:Cx) (R:XK3):Prop where
 raise_:∀(pins:List (Addr×Obj)) (σ:L2.St) (H1:Hp) (G1:Gp) (s1 s':Shared) (a C:Addr) (cn:Str) (args:List Value),Inv X pins σ H1 s1->GRel X.K H1 G1->CN X.K cn C->Heap.MadeExcOf s1.heap s'.heap a (.ref C) args->s'.os=s1.os->s'.gens=s1.gens->R cn G1->X.xe (.ref a) s'
 pass:∀(pins:List (Addr×Obj)) (σ:L2.St) (H1:Hp) (s1 s':Shared) (a C:Addr) (cn:Str) (B:Heap) (a0:Value) (H':Hp) (G':Gp),Inv X pins σ H1 s1->Lies X.prog X.w X.stack H1 s1 a C B a0 H' s'->GRel X.K H' G'->CN X.K cn C->R cn G'->X.xe (.ref a) s'
 own:PassesOwn (model X.prog X.w) X.A X.env X.xe
noncomputable def dnX (K:PySem.W.Frag) (n:Nat) (sp:SpX):Sp:=fun vs H Q E=>vs.length=n/\∃xs G,Reps K H xs vs/\GRel K H G/\sp xs G (fun t G'=>∀v H',Ext H H'->GRel K H' G'->Rep K H' t v->Q v H') (fun cn G'=>∀e C H',Ext H H'->GRel K H' G'->CN K cn C->E e (some C) H')
noncomputable def FnX (P:Program) (w:World) (K:PySem.W.Frag) (mg:Str->Option Value) (base:Heap) (k:Nat) (f:Addr) (fd:FuncData) (ps:List Str) (sp:SpX):Prop:=FnOk P w K mg base (CXX P w) k f fd ps (dnX K ps.length sp)
theorem fnX {P:Program} {w:World} {K:PySem.W.Frag} {mg:Str->Option Value} {base:Heap} {x qual:Str} {st:Stmt} {f:Addr} {fd:FuncData} {N ps:List Str} {k:Nat} {sp:SpX} (F:Fun K x qual st f fd) (S:FnScope N ps (jJo st))
  (hbody:∀(cdv:Value) (A:Around) (outer:List Env) (s:Shared) (H:Hp) (E:XK) (R:XK3),Room k (A.deeper (envOfC qual (jJo st) s.heap.objs.size f cdv))->XR (cxOf (CXX P w) P w K mg base N qual (jJo st) f cdv A outer s H E) R->
   ∃t,PSs3 (cxOf (CXX P w) P w K mg base N qual (jJo st) f cdv A outer s H E) (jKv st) t/\∀xs G Q,sp xs G Q R->t {nx:=fun _ G'=>Q .non G',rt:=Q} (jQp N xs) G):FnX P w K mg base (k+1) f fd ps sp:=by
 obtain⟨oc,od,kV,doc,pm,an,cdv,ct,osl,rfl,lk,hcd⟩:=F.ex
 refine fn_of (sp:=dnX K ps.length sp) lk hcd S (fun vs H Q E h=>h.1) fun A outer s H vs Q E hr hsp=> ?_
 obtain⟨hl,xs,G,rs,hg,hsp⟩:=hsp
 have hXR:XR (cxOf (CXX P w) P w K mg base N qual (jJo st) f cdv A outer s H E) (fun cn G'=>∀e C H',Ext H H'->GRel K H' G'->CN K cn C->E e (some C) H'):=by
  refine⟨?_,?_,PassesOwn.leaving⟩
  ·intro pins σ H1 G1 s1 s' a C cn args I g1 hc hm ho hg' hR
   exact kXz I rfl rfl rfl hm ho hg' fun B a0 h' l=>⟨a,C,B,a0,H1,rfl,l,hR (.ref a) C H1 ⟨I.base.tups,I.base.frzs⟩ g1 hc⟩
  ·intro pins σ H1 s1 s' a C cn B a0 H' G' I l g1 hc hR
   refine qJc I rfl rfl rfl l fun h' l'=>⟨a,C,B,a0,H',rfl,l',hR (.ref a) C H' ⟨l'.tups,l'.frzs⟩ g1 hc⟩
 obtain⟨t,ht,hq⟩:=hbody cdv A outer s H E _ hr hXR
 ·refine⟨fun D σ H1=>D.nx=(fun _ H'=>Q .non H')/\D.rt=Q/\σ=L2.start N vs/\H1=H,?_,rfl,rfl,rfl,rfl⟩
  rintro pins s1 σ1 H1 D I ⟨e1,e2,e3,e4⟩
  subst e3;subst e4
  have I3:Inv3 (cxOf (CXX P w) P w K mg base N qual (jJo st) f cdv A outer s H1 E) pins (jQp N xs) G H1 s1:=⟨_,I,jY5 rs,hg⟩
  refine thn (ht pins s1 _ G H1 _ I3 (hq xs G _ hsp)) fun fl s2 z=> ?_
  cases fl with
  | next=>obtain⟨τ',G',H',e',⟨σ',I',a,b⟩,q⟩:=z;exact⟨σ',H',I',by rw[e1];exact q .non H' e' b rfl⟩
  | brk=>obtain⟨τ',G',H',e',_,q⟩:=z;exact q.elim
  | cont=>obtain⟨τ',G',H',e',_,q⟩:=z;exact q.elim
  | ret u=>obtain⟨x',τ',G',H',e',⟨σ',I',a,b⟩,⟨v,rv,ru⟩,q⟩:=z;exact⟨v,σ',H',I',ru,by rw[e2];exact q v H' e' b rv⟩
def kVv (sp:SpX):Prop:=∀xs G Q Q' R R',(∀t G',Q t G'->Q' t G')->(∀c G',R c G'->R' c G')->sp xs G Q R->sp xs G Q' R'
structure CalX (P:Program) (w:World) (K:PySem.W.Frag) (mg:Str->Option Value) (base:Heap) (k:Nat) (x:Str) (ps:List Str) (sp:SpX):Prop where
 ex:∃f fd,FnX P w K mg base k f fd ps sp/\mg x=some (.ref f)/\PySem.W.keepIn K (.ref f)=true/\Binds K fd ps []
 mono:kVv sp
 len:∀xs G Q R,sp xs G Q R->xs.length=ps.length
def kQy (sp:SpX) (R:XK3) (t:TA3):TE3:=fun τ G Q=>t τ G fun xs G1=>sp xs G1 Q R
section
variable {X:Cx}
theorem kQ4 {k:Nat} {f:Addr} {fd:FuncData} {ps:List Str} {sp:SpX} {pins:List (Addr×Obj)} {σ:L2.St} {τ:St3} {H1:Hp} {G1:Gp} {s1:Shared} {xs:List T} {as:List V} {us:List Value} {Q:VK3} {R:XK3} {E:Value->Shared->Prop} (F:FnX X.prog X.w X.K X.mg X.base k f fd ps sp) (hr:Room k X.A) (hb:Binds X.K fd ps []) (mono:kVv sp) (len:∀xs G Q R,sp xs G Q R->xs.length=ps.length)
  (I1:Inv X pins σ H1 s1) (hs1:SRel X.K H1 σ τ) (hg1:GRel X.K H1 G1) (ras:Reps X.K H1 xs as) (rvs:Vals as us) (q:sp xs G1 Q R)
  (hE:∀a C cn B a0 H' G' s',Lies X.prog X.w X.stack H1 s1 a C B a0 H' s'->Ext H1 H'->GRel X.K H' G'->CN X.K cn C->R cn G'->E (.ref a) s'):
  wpAny (model X.prog X.w) X.A (call (.ref f) us) (EP3 X pins τ H1 Q) E s1:=by
 have hl:us.length=ps.length:=by rw[<-rvs.length,<-ras.length];exact len _ _ _ _ q
 refine wpAny_call (codeAny_mono (F.run X.A X.stack s1 H1 ⟨us,[]⟩ (us++[]) as (up X.K H1 Q) (fun _ c H'=>∃cn C G',c=some C/\CN X.K cn C/\Ext H1 H'/\GRel X.K H' G'/\R cn G') hr I1.env0 (hb s1 us I1.kIn (by rw[List.append_nil];exact hl)) (by rw[List.append_nil];exact rvs) ?_) fun r s' hq=> ?_)
 ·exact⟨by rw[<-ras.length];exact len _ _ _ _ q,xs,G1,ras,hg1,mono _ _ _ _ _ _ (fun t G' hq v H' e g r=>⟨t,G',e,g,r,hq⟩) (fun cn G' hR e C H' e1 g hc=>⟨cn,C,G',rfl,hc,e1,g,hR⟩) q⟩
 ·cases r with
  | error e=>
   obtain⟨a,C,B,a0,H',rfl,l,cn,C',G',ec,hc,e1,g,hR⟩:=(show CXX X.prog X.w X.stack H1 s1 (fun _ c H'=>∃cn C G',c=some C/\CN X.K cn C/\Ext H1 H'/\GRel X.K H' G'/\R cn G') e s' from hq)
   cases ec
   exact hE a C cn B a0 H' G' s' l e1 g hc hR
  | ok fl=>
   cases fl with
   | ret u=>exact jUb hs1 (I1.after hq)
   | next=>exact False.elim hq
   | brk=>exact False.elim hq
   | cont=>exact False.elim hq
theorem e_calX {k:Nat} {ps:List Str} {sp:SpX} {R:XK3} {x:Str} {p pos:Pos} {e:Expr} {es:List Expr} {t:TA3} (C:CalX X.prog X.w X.K X.mg X.base k x ps sp) (hx:XR X R) (hr:Room k X.A) (ha:PA3 X (e::es) t) (hg:Gl X x:=by rfl)
  (hdb:(x == ("__debug__":Str))=false:=by decide) (he:starEach (e::es) X.env=(false,eval e X.env)::starEach es X.env:=by rfl) (hpl:(backTo pos (starEach es X.env)).any (·.1)=false:=by rfl):
  PE3 X (.Call (.Name x p) (e::es) [] pos) (kQy sp R t):=by
 intro pins s τ G H Q I h
 obtain⟨f,fd,F,hm,hk,hb⟩:=C.ex
 obtain⟨σ0,I0,hs0,hg0⟩:=id I
 refine wpAny_Call_Name_kw (jU3 I0 hg hm ?_ hdb)
 refine PySem.W.callWith_K (h₀:=X.base) I0.ok.mod.kin hk (thn (ha pos pins s τ G H _ I h) fun us s1 w_=>w_.el fun xs G1 H1 e1 i_ r_ q=>i_.el fun σ I1 hs1 hg1=>r_.el fun as ras rvs=>⟨I1.kIn,?_⟩) he hpl
 exact thn (kQ4 F hr hb C.mono C.len I1 hs1 hg1 ras rvs q fun a C' cn B a0 H' G' s' l _ g hc hR=>hx.pass pins σ H1 s1 s' a C' cn B a0 H' G' I1 l g hc hR) fun u s' z=>z.ext e1
def jUy (R:XK3) (cn:Str):TS3:=fun _ _ G=>R cn G
theorem kJ6 {R:XK3} {cn v:Str} {a:Expr} {np cpos pos:Pos} (hx:XR X R) (hC:ExC X.K X.mg cn) (hc:X.calm=true) (ha:PA3 X [a] (jJc (tC (.str v)) tNil)) (hg:Gl X cn:=by rfl) (hdb:(cn == ("__debug__":Str))=false:=by decide)
  (he:starEach [a] X.env=[(false,eval a X.env)]:=by rfl):
  PS3 X (.Raise (some (.Call (.Name cn np) [a] [] cpos)) none pos) (jUy R cn):=by
 intro pins s τ G H D I h
 obtain⟨C,hcn,hmg,hin⟩:=hC.ex
 obtain⟨σ,I0,hs,hgr⟩:=id I
 obtain⟨bm,N,nm,qn,bs,hdct,sn,sub,ab,col,dd,k0,k1,k2,k3,k5,hC0,hok,hni,ht⟩:=exc_at hin
 refine wpAny_Raise_call_subU (C:=C) (N:=N) (nm:=nm) (q:=qn) (bs:=bs) (bm:=bm) (hdct:=hdct) (sn:=sn) (sub:=sub) (ab:=ab) (col:=col) (dd:=dd) (k0:=k0) (k1:=k1) (k2:=k2) (k3:=k3) (k5:=k5) (mN:=s.heap.nsMap N) (bmB:=vmro) PySem.F.excBase_ValueError (by decide) PySem.F.excBase_ValueError (kQv (tail_of_in I0.kIn ht)) (I0.ok.hd hc) (by rw[he];rfl) (nsMap_none_of_in I0.kIn hok hni) ?_
 refine jU3 I0 hg hmg ⟨rfl,?_⟩ hdb
 rw[show backTo cpos (starEach [a] X.env)=[(false,eval a X.env)] by rw[he];rfl]
 refine Calls.evalArgs_plain ?_
 have:=ha cpos pins s τ G H (fun ts G'=>ts.length=1/\R cn G') I ⟨rfl,h⟩
 rw[show backTo cpos (starEach [a] X.env)=[(false,eval a X.env)] by rw[he];rfl] at this
 refine thn this fun us s1 w_=>w_.el fun xs G1 H1 e1 i_ r_ q=>i_.el fun σ1 I1 hs1 hg1=>r_.el fun as ras rvs=> ?_
 have hl:us.length=1:=by rw[<-rvs.length,<-ras.length];exact q.1
 refine⟨rfl,by rw[hl];decide,I1.kIn _ _ hC0,kZ9 I0.kIn I1.kIn hok (.of_isNs (isNs_of_in I0.kIn hok)),tail_of_in I1.kIn ht,fun h' b hm=> ?_⟩
 exact hx.raise_ pins σ1 H1 G1 s1 {s1 with heap:=h'} b C cn us I1 hg1 hcn hm rfl rfl q.2
end
abbrev RX3:=Str->St3->Gp->Prop
abbrev TEx:=St3->Gp->VK3->RX3->Prop
abbrev TSx:=Ends3->RX3->St3->Gp->Prop
section
variable {X:Cx}
noncomputable def XP (X:Cx) (pins:List (Addr×Obj)) (H:Hp) (R:RX3) (e:Value) (s':Shared):Prop:=∃a C cn B a0 τ' G1 H1 s1 G' H',e= .ref a/\Ext H H1/\Inv3 X pins τ' G1 H1 s1/\Lies X.prog X.w X.stack H1 s1 a C B a0 H' s'/\Ext H1 H'/\GRel X.K H' G'/\CN X.K cn C/\R cn τ' G'
noncomputable def PEx (X:Cx) (e:Expr) (t:TEx):Prop:=∀(pins:List (Addr×Obj)) (s:Shared) (τ:St3) (G:Gp) (H:Hp) (Q:VK3) (R:RX3),Inv3 X pins τ G H s->t τ G Q R->wpAny (model X.prog X.w) X.A (eval e X.env) (EP3 X pins τ H Q) (XP X pins H R) s
noncomputable def PSx (X:Cx) (st:Stmt) (t:TSx):Prop:=∀(pins:List (Addr×Obj)) (s:Shared) (τ:St3) (G:Gp) (H:Hp) (D:Ends3) (R:RX3),Inv3 X pins τ G H s->t D R τ G->wpAny (model X.prog X.w) X.A (exec st X.env) (SP3 X pins H D) (XP X pins H R) s
noncomputable def PSsx (X:Cx) (st:List Stmt) (t:TSx):Prop:=∀(pins:List (Addr×Obj)) (s:Shared) (τ:St3) (G:Gp) (H:Hp) (D:Ends3) (R:RX3),Inv3 X pins τ G H s->t D R τ G->wpAny (model X.prog X.w) X.A (execs st X.env) (SP3 X pins H D) (XP X pins H R) s
def Calm (X:Cx):Prop:=∀e s,¬ X.xe e s
theorem Calm.any (h:Calm X) {α:Type} {m:Sem α} {Q:α->Shared->Prop} {E:Value->Shared->Prop} {s:Shared} (w:wpAny (model X.prog X.w) X.A m Q X.xe s):wpAny (model X.prog X.w) X.A m Q E s:=
 wpAny_mono w (fun _ _ z=>z) fun e s z=>absurd z (h e s)
def kZr (sp:SpX) (t:TA3):TEx:=fun τ G Q R=>t τ G fun xs G1=>sp xs G1 Q fun cn G'=>R cn τ G'
theorem ex_cal {k:Nat} {ps:List Str} {sp:SpX} {x:Str} {p pos:Pos} {e:Expr} {es:List Expr} {t:TA3} (hn:Calm X) (C:CalX X.prog X.w X.K X.mg X.base k x ps sp) (hr:Room k X.A) (ha:PA3 X (e::es) t) (hg:Gl X x:=by rfl)
  (hdb:(x == ("__debug__":Str))=false:=by decide) (he:starEach (e::es) X.env=(false,eval e X.env)::starEach es X.env:=by rfl) (hpl:(backTo pos (starEach es X.env)).any (·.1)=false:=by rfl):
  PEx X (.Call (.Name x p) (e::es) [] pos) (kZr sp t):=by
 intro pins s τ G H Q R I h
 obtain⟨f,fd,F,hm,hk,hb⟩:=C.ex
 obtain⟨σ0,I0,hs0,hg0⟩:=id I
 refine wpAny_Call_Name_kw (jU3 I0 hg hm ?_ hdb)
 refine PySem.W.callWith_K (h₀:=X.base) I0.ok.mod.kin hk (thn (hn.any (ha pos pins s τ G H _ I h)) fun us s1 w_=>w_.el fun xs G1 H1 e1 i_ r_ q=>i_.el fun σ I1 hs1 hg1=>r_.el fun as ras rvs=>⟨I1.kIn,?_⟩) he hpl
 refine thn (kQ4 F hr hb C.mono C.len I1 hs1 hg1 ras rvs q fun a C' cn B a0 H' G' s' l ex g hc hR=> ?_) fun u s' z=>z.ext e1
 exact⟨a,C',cn,B,a0,τ,G1,H1,s1,G',H',rfl,e1,⟨σ,I1,hs1,hg1⟩,l,ex,g,hc,hR⟩
def kZq (te:TEx) (i:Nat):TSx:=fun D R τ G=>te τ G (fun v G1=>D.nx (τ.set i (some v)) G1) R
theorem sx_set {i:Nat} {x:Str} {e:Expr} {te:TEx} {pos pos':Pos} (hN:X.N.Nodup) (he:PEx X e te) (hi:X.N[i]? =some x:=by rfl) (hx:Loc X.env.scope x:=by first | exact Or.inl rfl | exact Or.inr rfl)
  (hs:swapsWith e (some (.Name x pos')) pos.line X.env=pure false:=by rfl) (hf:X.fn x=true\/X.env.scope.names.lookup x=some .local:=by first | exact .inl rfl | exact .inr rfl):
  PSx X (.Assign [.Name x pos'] e pos) (kZq te i):=by
 intro pins s τ G H D R I h
 refine wpAny_Assign_Name (thn (he pins s τ G H _ R I h) fun v s1 w_=>w_.el fun y G1 H1 e1 i_ r_ q1=>i_.el fun σ I1 hs1 hg1=>r_.el fun a ra rv=> ?_) hs
 exact jK3 I1 hN hi hx rv (fun s2 I2=>⟨_,G1,H1,e1,⟨_,I2,hs1.set i ra,hg1⟩,q1⟩) hf
theorem kZs {st:Stmt} {t:TSx} (h1:PSx X st t):PSsx X [st] t:=by
 intro pins s τ G H D R I h
 refine wpAny_execs_cons (thn (h1 pins s τ G H D R I h) fun f s1 q=> ?_)
 cases f with
 | next=>exact wpAny_execs_nil q
 | ret v=>exact q
 | brk=>exact q
 | cont=>exact q
end
section
variable {X:Cx} {pins:List (Addr×Obj)} {σ:L2.St} {H H':Hp} {s s':Shared} {a C:Addr} {B:Heap} {a0:Value}
abbrev hX (X:Cx) (a:Addr):Cx:={X with A:=X.A.mark (some (.ref a)),calm:=false}
theorem Inv.mark (I:Inv X pins σ H s) (a:Addr):Inv (hX X a) pins σ H s:=
 ⟨⟨I.ok.mod,I.ok.kind,I.ok.glob,I.ok.blt,I.ok.above,I.ok.inj,I.ok.has,I.ok.cab,fun z=>Bool.noConfusion z,fun z=>Bool.noConfusion z,I.ok.frames,I.ok.stk,I.ok.exf,I.ok.bs,I.ok.bsz,I.ok.noex,I.ok.exfs,I.ok.funs,I.ok.frf⟩,I.os,I.bare,I.base,I.loc,I.cell,I.free,I.freeC,I.pin,I.hok,I.len⟩
theorem Inv.unmark (I:Inv (hX X a) pins σ H s) (ok:X.Ok):Inv X pins σ H s:=⟨ok,I.os,I.bare,I.base,I.loc,I.cell,I.free,I.freeC,I.pin,I.hok,I.len⟩
theorem Inv3.mark {τ:St3} {G:Gp} (I:Inv3 X pins τ G H s) (a:Addr):Inv3 (hX X a) pins τ G H s:=let ⟨σ,I,x,y⟩:=I;⟨σ,Inv.mark I a,x,y⟩
theorem Inv3.unmark {τ:St3} {G:Gp} (I:Inv3 (hX X a) pins τ G H s) (ok:X.Ok):Inv3 X pins τ G H s:=let ⟨σ,I,x,y⟩:=I;⟨σ,Inv.unmark I ok,x,y⟩
theorem kVz {M:Model} {A:Around} {E:Value->Shared->Prop} {i:Nat} {x:Str} {v:V} {Q:Unit->Shared->Prop} (I:Inv X pins σ H s) (hN:X.N.Nodup) (hi:X.N[i]? =some x) (hk:X.env.scope.names.lookup x=some .local) (hv:σ[i]? =some (some v))
  (h:∀s',Inv X pins (σ.set i none) H s'->Q () s'):wpAny M A (unbindName X.env x) Q E s:=by
 obtain⟨m,hn,hl⟩:=id I.loc
 have hcls:(X.env.scope.kind == .class||(X.env.scope.kind == .module&&X.env.locals != X.env.globals))=false:=by rw[I.ok.kind];rfl
 have cne:=I.cne
 have hval:∃u,m x=some u:=by
  obtain⟨u,_,q⟩:=hl i x v hi hv (.inl hk)
  rcases q with ⟨_,e⟩ | ⟨k,_⟩
  ·exact⟨u,e⟩
  ·rcases k with k | k<;>(rw[show X.env.kindOf x=some .local from hk] at k;cases k)
 obtain⟨u0,hu0⟩:=hval
 obtain⟨oL,_,_,hoL,_⟩:=id hn
 refine wpAny_unbindName_local hk hn hu0 hcls fun h' u hn' hs=> ?_
 refine h _ ⟨I.ok,I.os,I.bare,⟨fun b o e n hb hx=> ?_,fun b o e n hb hx=> ?_,I.base.free,fun b o e hx=> ?_,I.base.tups,I.base.frzs,I.base.tbls⟩,⟨_,hn',fun j y v' e1 e2 e3=> ?_⟩,fun y c e=> ?_,I.free,I.freeC,fun p hp=> ?_,fun b ob e=> ?_,by simpa using I.len⟩
 ·exact (hs.2 b (Nat.ne_of_lt (Nat.lt_of_lt_of_le (Heap.lt_size e) I.ok.above))).trans (I.base.keep b o e n hb hx)
 ·obtain⟨sl,e1⟩:=I.base.slot b o e n hb hx
  exact⟨sl,(hs.2 b (Nat.ne_of_lt (Nat.lt_of_lt_of_le (Heap.lt_size e) I.ok.above))).trans e1⟩
 ·obtain⟨o',e1⟩:=I.base.there b o e hx
  exact⟨o',(hs.2 b (Nat.ne_of_lt (Nat.lt_of_lt_of_le (Heap.lt_size e) I.ok.above))).trans e1⟩
 ·by_cases hj:j=i
  ·subst hj
   by_cases hlt:j<σ.length
   ·rw[List.getElem?_set_self hlt] at e2;cases e2
   ·rw[List.getElem?_eq_none (by simpa using Nat.not_lt.mp hlt)] at e2;cases e2
  ·rw[List.getElem?_set_ne (Ne.symm hj)] at e2
   obtain⟨u',r',q⟩:=hl j y v' e1 e2 e3
   refine⟨u',r',?_⟩
   rcases q with ⟨k,e⟩ | ⟨k,c,e,z⟩
   ·refine .inl ⟨k,?_⟩
    have:y≠x:=fun e=>hj (jYm hN e1 (e▸hi))
    simp[this,e]
   ·exact .inr ⟨k,c,e,z.sameBut hs (cne y c e)⟩
 ·obtain⟨w',z⟩:=I.cell y c e
  exact⟨w',z.sameBut hs (cne y c e)⟩
 ·obtain⟨e,n,ne,nf,d⟩:=I.pin p hp
  exact⟨(hs.2 p.1 ne).trans e,n,ne,nf,d⟩
 ·refine (I.hok b ob e).stay (fun c w' hc q=>(hs.2 c ?_).trans q) (fun _ q=>q) fun _ _ q=>q
  rintro rfl
  rcases hc with rfl | hc
  ·rw[I.free] at e;cases e
  ·rw[I.free] at hc;cases hc
theorem kUs {M:Model} {A:Around} {E:Value->Shared->Prop} {i:Nat} {x:Str} {pos:Pos} {Q:Unit->Shared->Prop} (I:Inv X pins σ H s) (hN:X.N.Nodup) (hi:X.N[i]? =some x) (hk:X.env.scope.names.lookup x=some .local)
  (h:∀s',Inv X pins (σ.set i none) H s'->Q () s'):wpAny M A (do bindName X.env x .none;unbindBehindTheSuite X.env x pos) Q E s:=by
 have hil:i<σ.length:=by rw[I.len];exact (List.getElem?_eq_some_iff.mp hi).1
 refine wpAny_bind (wpAny_bindName (jK3 (v:= .non) I hN hi (.inl hk) rfl (fun s1 I1=> ?_) (.inr hk)))
 unfold unbindBehindTheSuite
 refine wpAny_onRaise (kVz (v:= .non) I1 hN hi hk (List.getElem?_set_self hil) fun s2 I2=>h s2 ?_)
 rw[List.set_set] at I2
 exact I2
theorem SRel.unset {K:PySem.W.Frag} {τ:St3} (h:SRel K H σ τ) (i:Nat):SRel K H (σ.set i none) (τ.set i none):=by
 refine⟨by simp[h.1],fun j u q=> ?_⟩
 by_cases hj:i=j
 ·subst hj
  by_cases hl:i<τ.length
  ·rw[List.getElem?_set_self hl] at q;cases q
  ·rw[List.getElem?_eq_none (by simpa using Nat.not_lt.mp hl)] at q;cases q
 ·rw[List.getElem?_set_ne hj] at q ⊢
  exact h.2 j u q
theorem Lies.new (I:Inv X pins σ H s) (l:Lies X.prog X.w X.stack H s a C B a0 H' s'):s.heap.get? a=none:=by
 cases e:s.heap.get? a with
 | none=>rfl
 | some o=>
  exfalso
  by_cases f:a∈frs X.stack
  ·obtain⟨_,o',ho',hd⟩:=I.stack.mem f
   rw[e] at ho';cases ho'
   obtain⟨sl,e2⟩:=l.slot a o e f
   obtain⟨oe,vs,T,oT,ts,he,hc,hdd,_⟩:=l.fly.2.2.2
   rw[e2] at he;cases he
   exact hd vs hdd
  ·obtain⟨o',e2⟩:=l.there a o e f
   rw[l.fly.2.1] at e2;cases e2
theorem Lies.again {E:Value->Shared->Prop} {A:Around} (I:Inv X pins σ H s) (l:Lies X.prog X.w X.stack H s a C B a0 H' s') {Q:Unit->Shared->Prop} (k:∀h',Lies X.prog X.w X.stack H s a C B a0 H' {s' with heap:=h'}->Q () {s' with heap:=h'}):wpAny (model X.prog X.w) A (setFlight (.ref a) none) Q E s':=by
 refine lands_againW l.fly fun h2 fl up=>k h2 ⟨l.os,l.bare,fl,l.hok,l.keep,l.there,fun b o h f=> ?_,l.free,l.tups,l.frzs,l.tbls⟩
 obtain⟨sl,e⟩:=l.slot b o h f
 obtain⟨_,o',ho',hd'⟩:=I.stack.mem f
 rw[h] at ho'
 cases ho'
 obtain⟨sl2,e2⟩:=up b _ e hd'
 exact⟨sl2,e2⟩
theorem kX0 (I:Inv X pins σ H s) (l:Lies X.prog X.w X.stack H s a C B a0 H' s'):∃ob,ob.cls= .ref C/\Inv X pins σ (upd H' a (.frz ob (.ext fun h=>h.get? a=some ob))) s':=by
 obtain⟨ob,hob,hcl⟩:=l.fly.there
 have na:=l.na
 have new:=Lies.new I l
 have u:=l.un
 have hok:=l.hok.kept fun b u e=>l.fly.1 b u e
 refine⟨ob,hcl,I.call' (ch:=[]) l.os ⟨u.keep,u.slot,fun b o h n x=> ?_,u.there,fun b xs h=> ?_,fun b o w h=> ?_,fun b ps h=> ?_⟩ (fun b o e=> ?_) l.bare fun b z=>absurd z List.not_mem_nil⟩
 ·rw[jJs (fun z=>by rw[z,new] at h;cases h)];exact u.free b o h n x
 ·rw[jJs (fun z=>by have:=u.tups b xs h;rw[z,na] at this;cases this)];exact u.tups b xs h
 ·rw[jJs (fun z=>by have:=u.frzs b o w h;rw[z,na] at this;cases this)];exact u.frzs b o w h
 ·obtain⟨m,e⟩:=u.tbls b ps h
  exact⟨m,by rw[jJs (fun z=>by rw[z,na] at e;cases e)];exact e⟩
 ·by_cases hb:b=a
  ·subst hb
   rw[jJ7] at e;cases e
   exact⟨hob,hob,⟨ob,hob⟩,fun h1 h2 p k=>k ob p⟩
  ·rw[jJs hb] at e
   refine (hok b o e).stay (fun c w' _ q=>q) (fun c q=> ?_) fun c xs q=> ?_
   ·rw[jJs (fun z=>by rw[z,na] at q;cases q)];exact q
   ·rw[jJs (fun z=>by rw[z,na] at q;cases q)];exact q
end
structure ExSub (K:PySem.W.Frag) (mg:Str->Option Value) (cn c:Str) (b:Bool):Prop where
 ex:∃C D,CN K cn C/\mg c=some (.ref D)/\exmOne K (.ref C) (.ref D)=some b
section
variable {X:Cx}
noncomputable def tTry (i:Nat) (cs:List Str) (tb:TSx) (th:TS3):TS3:=fun D τ G=>tb D (fun cn τ' G'=>cn∈cs/\∀a,G' a=none->th {nx:=fun τ2 G2=>D.nx (τ2.set i none) G2,rt:=fun _ _=>False} (τ'.set i (some (.ref a))) (gup G' a (.exc cn))) τ G
theorem s_try {body:List Stmt} {b0:Stmt} {bs:List Stmt} {c n:Str} {i:Nat} {cs:List Str} {tb:TSx} {th:TS3} {np hpos pos:Pos} (hn:Calm X) (hN:X.N.Nodup) (hb:PSsx X body tb) (hh:∀a,PSs3 (hX X a) (b0::bs) th) (hcs:∀cn,cn∈cs->ExSub X.K X.mg cn c true)
  (hst:X.stack=X.env::X.outer:=by rfl) (hfr:X.env.frame=some X.env.locals:=by rfl) (hi:X.N[i]? =some n:=by rfl) (hk:X.env.scope.names.lookup n=some .local:=by rfl) (hg:Gl X c:=by rfl) (hdb:(c == ("__debug__":Str))=false:=by decide):
  PS3 X (.Try body [.ExceptHandler (some (.Name c np)) (some n) (b0::bs) hpos] [] [] pos) (tTry i cs tb th):=by
 intro pins s τ G H D I h
 refine wpAny_Try_except (wpAny_mono (hb pins s τ G H D _ I h) (fun f s1 q=> ?_) fun e s1 q=> ?_)
 ·cases f with
  | next=>exact wpAny_execs_nil q
  | ret v=>exact q
  | brk=>exact q
  | cont=>exact q
 obtain⟨a,C,cn,B,a0,τ',G1,H1,s2,G',H',rfl,e1,I1,l,e2,g,hc,hin,hR⟩:=q
 obtain⟨σ,I2,hs2,hg2⟩:=I1
 obtain⟨C',Dc,hC',hmg,hx⟩:=(hcs cn hin).ex
 cases hC'.one hc
 refine kUv I2 l hst hfr fun h3 I3 l3=> ?_
 refine wpAny_handleBy_cons (codeAny_handlers_test (jU3 (X:=hX X a) (Inv.mark I3 a) hg hmg ?_ hdb)) (by intro q;cases q)
 obtain⟨ob,hob,hcl⟩:=l3.fly.there
 have LT:Looks (model X.prog X.w) h3 (typeOf (.ref a)) (.ref C):=hcl▸(Looks.ld (part:=none) hob).andThen .now
 refine (exm_one (K:=X.K) I3.kIn LT hx).at ?_
 (refine codeAny_handlers_suite_as ?_)
 refine Lies.again (X:=X) I2 l3 fun h4 l4=> ?_
 obtain⟨ob4,hcl4,I4⟩:=kX0 I2 l4
 have ea:Ext H' (upd H' a (.frz ob4 (.ext fun h=>h.get? a=some ob4))):= .upd (.none l4.na)
 refine jK3 (v:= .ref a) I4 hN hi (.inl hk) rfl (fun s5 I5=> ?_) (.inr hk)
 have hs5:SRel X.K (upd H' a (.frz ob4 (.ext fun h=>h.get? a=some ob4))) (σ.set i (some (.ref a))) (τ'.set i (some (.ref a))):=((hs2.mono e2).mono ea).set i rfl
 have ga:G' a=none:=g.fresh l4.na
 have hg5:GRel X.K (upd H' a (.frz ob4 (.ext fun h=>h.get? a=some ob4))) (gup G' a (.exc cn)):=g.upd (.none l4.na) ⟨ob4,C,_,jJ7,hcl4,hc⟩
 have:=hh a pins s5 _ _ _ _ (Inv3.mark ⟨_,I5,hs5,hg5⟩ a) (hR a ga)
 refine wpAny_mono this (fun f s6 q=> ?_) fun e s6 q=>absurd q (hn e s6)
 cases f with
 | next=>
  obtain⟨τ6,G6,H6,e6,I6,q⟩:=q
  obtain⟨σ6,I6,hs6,hg6⟩:=Inv3.unmark I6 I2.ok
  exact kUs I6 hN hi hk fun s7 I7=>⟨_,G6,H6,((e1.trans e2).trans ea).trans e6,⟨_,I7,hs6.unset i,hg6⟩,q⟩
 | ret v=>obtain⟨_,_,_,_,_,_,_,q⟩:=q;exact q.elim
 | brk=>obtain⟨_,_,_,_,_,q⟩:=q;exact q.elim
 | cont=>obtain⟨_,_,_,_,_,q⟩:=q;exact q.elim
end
structure ExK (K:PySem.W.Frag) (D:Addr):Prop where
 ga:findIn K (.ref D) "__getattribute__"=some (some (.builtin "BaseException.__getattribute__"))
 gt:findIn K (.ref D) "__getattr__"=some none
 cl:findIn K (.ref D) "__class__"=some (some (.builtin "object.__class__"))
 be:mroIn K D (.type "BaseException")=some true
 ob:mroIn K D (.type "object")=some true
 is:(clsIn K D).isSome=true
section
variable {prog:Program} {w:World} {A:Around} {E:Value->Shared->Prop} {s:Shared} {K:PySem.W.Frag} {x D:Addr} {ox:Obj}
open PySem.Builtin PySem.Builtin.ObjectAttr PySem.Builtin.Getset_descriptor in
theorem kQi {C:Addr} {tp:Value} {R:Result->Shared->Prop} (X:K.In s.heap) (L0:Looks (model prog w) s.heap (typeOf (.ref x)) (.ref C)) (hm:mroIn K C (.type "object")=some true) (h:R (.ok (.ret (.ref C))) s):codeAny (model prog w) A (.call (.builtin "getset_descriptor.__get__") ⟨[.builtin "object.__class__",.ref x,tp],[]⟩) R s:=by
 (obtain⟨hh,g,dr,t,os⟩:=s)
 (have L1:=looks_mroIn (M:=model prog w) X hm)
 (refine codeAny_call_builtin KF.slot_gs.plain KF.entry_gs (KF.slot_gs.check _ _ _ _ _ _ _ _ KF.type_class (KF.args_gs _ _ _) ?_))
 (unfold Builtin.«getset_descriptor.__get__» descrGet)
 rw[dga_obj]
 refine wpAny_bind (wpAny_pure ?_)
 (unfold descrGetter descrCheckInstance descrNameAndClass isInstance)
 simp only[KF.owner_class]
 repeat lk
 (refine⟨Code.quiet_builtin _ (by decide +kernel),codeAny_builtin KF.entry_class ?_⟩)
 (unfold Builtin.«object.__class__» shownTypeOf)
 repeat lk
 exact h
theorem kU8 {Q:Option Value->Shared->Prop} (X:K.In s.heap) (L0:Looks (model prog w) s.heap (typeOf (.ref x)) (.ref D)) (e:ExK K D) (h:Q (some (.ref D)) {s with toks:=s.toks+1}):wpAny (model prog w) A (getAttr? (.ref x) "__class__") Q E s:=by
 obtain⟨hh,g,d,t,os⟩:=s
 have L1:=looks_findIn (M:=model prog w) X e.ga
 have L2:=looks_findIn (M:=model prog w) X e.cl
 have L3:=looks_findIn (M:=model prog w) X e.gt
 have L4:=looks_mroIn (M:=model prog w) X e.be
 (have hx2:(Value.builtin "BaseException.__getattribute__" == Value.builtin "object.__getattribute__")=false:=by decide +kernel)
 have hx1:(onTheHeap (Value.ref D)&&Value.builtin "BaseException.__getattribute__" == Value.builtin "object.__getattribute__")=false:=by rw[hx2];rfl
 have f3:=PySem.F.attrBase_ValueError.ga.bind (.ref x)
 (unfold getAttr? getAttrBy? getAttrBy)
 (refine wpAny_bind (wpAny_mkText (wpAny_bind (wpAny_attempt (wpAny_holding (wpAny_bind (L0.at (wpAny_bind (L1.at ?_)))))))))
 dsimp only
 rw[hx1]
 (simp only[Bool.false_eq_true,if_false])
 unfold getAttrByItsOwn
 have X':K.In hh:=X
 have L0:Looks (model prog w) hh (typeOf (Value.ref x)) (Value.ref D):=L0
 have L1:Looks (model prog w) hh (typeLookup (Value.ref D) (Str.ofString "__getattribute__")) (some (Value.builtin "BaseException.__getattribute__")):=L1
 have L2:Looks (model prog w) hh (typeLookup (Value.ref D) (Str.ofString "__class__")) (some (Value.builtin "object.__class__")):=L2
 have L3:Looks (model prog w) hh (typeLookup (Value.ref D) (Str.ofString "__getattr__")) none:=L3
 have L4:Looks (model prog w) hh (isSubtype (Value.ref D) (Value.type "BaseException")) true:=L4
 have key:∀(A:Around) (R:Result->Shared->Prop),R (.ok (.ret (.ref D))) ⟨hh,g,d,t+1,os⟩->codeAny (model prog w) A (.call (.builtin "BaseException.__getattribute__") ⟨[.ref x,.str (Str.ofString "__class__") t],[]⟩) R ⟨hh,g,d,t+1,os⟩:=by
  intro A R hR
  refine codeAny_call_builtin PySem.F.attrBase_ValueError.ga.plain PySem.F.entry_bexc_ga ?_
  (have hk:builtinKind "BaseException.__getattribute__"=some .slot:=by decide +kernel)
  (have hsplit:splitId "BaseException.__getattribute__"=some ("BaseException","__getattribute__"):=by decide +kernel)
  have ha:=PySem.F.args_bexc_ga (.ref x) (.str (Str.ofString "__class__") t)
  (simp only[checkBuiltinCall,hk,hsplit])
  refine wpAny_bind (wpAny_bind (L0.at (L4.at ?_)))
  rw[if_neg (by decide)]
  have hT5:(⟨hh,g,d,t+1,os⟩:Shared).TypeIs (.builtin "object.__class__") "getset_descriptor":=PySem.F.typeOf_object_class
  have f5:=PySem.F.typeOf_object_class
  have f6:=PySem.F.slot_gs_get.lookup
  have f7:=PySem.F.slot_gs_set.lookup
  repeat (any_goals (first | assumption | with_reducible refine L0.at ?_ | with_reducible refine L2.at ?_ | wp_step))
  refine kQi (s:=⟨hh,g,d,t+1,os⟩) X' L0 e.ob ?_
  (repeat (any_goals (first | assumption | wp_step)))
 unfold hookBefore
 rw[if_pos (show onTheHeap (Value.ref D)=true from rfl)]
 refine wpAny_bind (L3.at ?_)
 (refine wpAny_bind (wpAny_attempt (wpAny_holding ?_)))
 unfold callGetattribute
 rw[if_neg (by decide)]
 unfold boundAndCalled
 rw[f3]
 refine wpAny_bind (wpAny_pure ?_)
 refine (show wpAny _ _ (call (Value.builtin "BaseException.__getattribute__") [Value.ref x,Value.str (Str.ofString "__class__") t]) _ _ _ from wpAny_call (key _ _ ?_))
 (exact wpAny_pure (wpAny_pure h))
def ExAt (x D:Addr) (h:Heap):Prop:=∃ob,h.get? x=some ob/\ob.cls= .ref D
theorem ExAt.ty {M:Model} {h:Heap} (p:ExAt x D h):Looks M h (typeOf (.ref x)) (.ref D):=by
 obtain⟨ob,h1,h2⟩:=p
 exact h2▸(Looks.ld (part:=none) h1).andThen .now
theorem kKe (e:ExK K D):KitX K (.ref x) (.ref D) (ExAt x D) where
 ty:=fun _ _ _ p=>p.ty
 it:=fun _ _ X _=>by
  obtain⟨cd,hc⟩:=Option.isSome_iff_exists.mp e.is
  unfold clsIn at hc
  split at hc
  ·rename_i ho
   intro A' Q' E' s' k q
   unfold isType loadHead
   (exact wpAny_bind (wpAny_loadPart (k _ _ (X _ _ ho)) (wpAny_pure q)))
  ·cases hc
 ne:=fun h0 tp d0 is0 n0 l0 X htp=>by
  obtain⟨cd,hc⟩:=Option.isSome_iff_exists.mp e.is
  (refine Bool.eq_false_iff.mpr fun q=> ?_)
  have z:D=tp:=Value.ref.inj (beq_iff_eq.mp q)
  subst z
  unfold clsIn at hc
  split at hc
  ·rename_i ho
   (have z:=(X _ _ ho).symm.trans htp)
   cases z
  ·cases hc
 ca:=fun X p k=>kU8 X p.ty e k
end
def ClsV (mg:Str->Option Value) (c:Str) (v:Value):Prop:=mg c=some v\/(mg c=none/\bootBuiltins c=some v)
structure IsX (K:PySem.W.Frag) (mg:Str->Option Value) (cs:List Str) (cn:Str) (b:Bool):Prop where
 ex:∃D vs,CN K cn D/\ExK K D/\Paired (fun c v=>ClsV mg c v) cs vs/\kitAny K (.ref D) vs=some b
theorem kQe {K:PySem.W.Frag} {t c:Value} {b:Bool} (h:kitAny K t [c]=some b):kitOne K t c=some b:=by
 unfold kitAny at h
 split at h
 ·rename_i e;cases h;exact e
 ·rename_i e;rw[e];exact h
 ·cases h
def clsT:Value->T
 | .ref C=> .ref C
 | .type n=> .ty n
 | _=> .non
section
variable {X:Cx}
def kK0 (rel:List (Str×Bool)) (tx:TE3):TE3:=fun τ G Q=>tx τ G fun x G1=>∃a cn b,x= .ref a/\G1 a=some (.exc cn)/\(cn,b)∈rel/\Q (.bl b) G1
theorem kZc {pins:List (Addr×Obj)} {τ:St3} {G:Gp} {H:Hp} {s:Shared} {a:Addr} {cn:Str} {D:Addr} (I:Inv3 X pins τ G H s) (h:G a=some (.exc cn)) (hD:CN X.K cn D):ExAt a D s.heap:=by
 obtain⟨σ,I0,_,hg⟩:=I
 obtain⟨ob,C,u,h1,h2,h3⟩:=(show ∃ob C u,H a=some (.frz ob u)/\ob.cls= .ref C/\PySem.W.nsIn X.K mainGlobals cn=some (some (.ref C)) from hg a _ h)
 cases CN.one hD h3
 exact⟨ob,(I0.hok a _ h1).1,h2⟩
theorem e_nm {c:Str} {v:Value} {pc:Pos} (hv:ClsV X.mg c v) (hc:∃C,v= .ref C\/∃n,v= .type n) (hg:Gl X c) (hn:c≠"__name__") (hdb:(c == ("__debug__":Str))=false):PE3 X (.Name c pc) (tC (clsT v)):=by
 intro pins s τ G H Q I h
 obtain⟨σ,I0,_,_⟩:=id I
 have e:EP3 X pins τ H Q v s:=by
  obtain⟨C,rfl | ⟨n,rfl⟩⟩:=hc
  ·exact⟨.ref C,G,H,.refl H,I,⟨.ref C,rfl,rfl⟩,h⟩
  ·exact⟨.ty n,G,H,.refl H,I,⟨.ty n,rfl,rfl⟩,h⟩
 rcases hv with hv | ⟨h1,h2⟩
 ·exact jU3 I0 hg hv e hdb
 ·exact jK1 I0 hg h1 h2 e hn hdb
theorem kZf {rel:List (Str×Bool)} {c:Str} {x:Expr} {tx:TE3} {p pc pos:Pos} (hrel:∀cn b,(cn,b)∈rel->IsX X.K X.mg [c] cn b) (hcl:∃v,ClsV X.mg c v/\∃C,v= .ref C\/∃n,v= .type n) (hx:PE3 X x tx) (hm:X.mg "isinstance"=none) (hg:Gl X "isinstance":=by rfl) (hgc:Gl X c:=by rfl) (hn:c≠"__name__":=by decide) (hdb:(c == ("__debug__":Str))=false:=by decide)
  (he:starEach [x,.Name c pc] X.env=(false,eval x X.env)::starEach [.Name c pc] X.env:=by rfl) (he2:starEach [.Name c pc] X.env=[(false,eval (.Name c pc) X.env)]:=by rfl) (hpl:(backTo pos (starEach [.Name c pc] X.env)).any (·.1)=false:=by rfl):
  PE3 X (.Call (.Name "isinstance" p) [x,.Name c pc] [] pos) (kK0 rel tx):=by
 obtain⟨v,hv,hvc⟩:=hcl
 intro pins s τ G H Q I h
 obtain⟨σ,I0,_,_⟩:=id I
 refine wpAny_Call_Name_kw (jK1 I0 hg hm rfl ?_ (by decide) (by decide))
 refine PyProof.Rows.callWith_builtin1 ?_ he hpl
 rw[he,he2]
 refine Calls.spliced_cons (thn (hx pins s τ G H _ I h) fun u s1 w_=>w_.el fun y G1 H1 e1 I1 r1 q1=>Calls.spliced_cons (thn (e_nm hv hvc hgc hn hdb pins s1 τ G1 H1 (fun t G2=>t=clsT v/\G2=G1) I1 ⟨rfl,rfl⟩) fun u2 s2 w2=>Calls.spliced_nil ?_))
 obtain⟨t2,G2,H2,e2,I2,r2,rfl,rfl⟩:=w2
 obtain⟨a,cn,b,rfl,hG,hin,q⟩:=q1
 obtain⟨D,vs,hD,hk,hp,hka⟩:=(hrel cn b hin).ex
 obtain⟨v1,z1,z2⟩:=r1
 cases z1;cases z2
 have hu2:u2=v:=by
  obtain⟨v2,y1,y2⟩:=r2
  obtain⟨C,rfl | ⟨n,rfl⟩⟩:=hvc
  ·cases y1;cases y2;rfl
  ·cases y1;cases y2;rfl
 subst hu2
 cases hp with
 | @cons _ v' _ _ hc hr=>
 cases hr
 have:v'=u2:=by
  rcases hc with h1 | ⟨h1,h2⟩<;>rcases hv with h3 | ⟨h3,h4⟩
  ·rw[h1] at h3;exact Option.some.inj h3
  ·rw[h1] at h3;cases h3
  ·rw[h1] at h3;cases h3
  ·rw[h2] at h4;exact Option.some.inj h4
 subst this
 obtain⟨σ2,J2,_,_⟩:=id I2
 exact kia_one (kKe hk) J2.kIn (kZc I2 hG hD) (kQe hka) (by intro q;cases q) fun tk=>⟨.bl b,G2,H2,e1.trans e2,I2.tok tk,⟨.bl b,rfl,rfl⟩,q⟩
def Cl1 (v:Value):Prop:=∃C,v= .ref C\/∃n,v= .type n
theorem cl_eq {K:PySem.W.Frag} {H:Hp} {v u:Value} (hv:Cl1 v) (r:RU K H (clsT v) u):u=v:=by
 obtain⟨w,y1,y2⟩:=r
 obtain⟨C,rfl | ⟨n,rfl⟩⟩:=hv
 ·cases y1;cases y2;rfl
 ·cases y1;cases y2;rfl
theorem kYn {mg:Str->Option Value} {c:Str} {v u:Value} (hc:ClsV mg c v) (hv:ClsV mg c u):v=u:=by
 rcases hc with h1 | ⟨h1,h2⟩<;>rcases hv with h3 | ⟨h3,h4⟩
 ·rw[h1] at h3;exact Option.some.inj h3
 ·rw[h1] at h3;cases h3
 ·rw[h1] at h3;cases h3
 ·rw[h2] at h4;exact Option.some.inj h4
inductive NmL (X:Cx):List Str->List Expr->Prop
 | nil:NmL X [] []
 | cons {c:Str} {pc:Pos} {cs:List Str} {es:List Expr} (hv:∃v,ClsV X.mg c v/\Cl1 v) (h:NmL X cs es) (hg:Gl X c:=by rfl) (hn:c≠"__name__":=by decide) (hdb:(c == ("__debug__":Str))=false:=by decide) (he:starEach (.Name c pc::es) X.env=(false,eval (.Name c pc) X.env)::starEach es X.env:=by rfl):NmL X (c::cs) (.Name c pc::es)
theorem nml_rd {cs:List Str} {es:List Expr} (h:NmL X cs es):∃vs,Paired (fun c v=>ClsV X.mg c v) cs vs/\(∀v,v∈vs->Cl1 v)/\PA3 X es (fun _ G Q=>Q (vs.map clsT) G):=by
 induction h with
 | nil=>exact⟨[],.nil,fun v h=>absurd h List.not_mem_nil,jJd⟩
 | cons hv h hg hn hdb he ih=>
  obtain⟨v,h1,h2⟩:=hv
  obtain⟨vs,i1,i2,i3⟩:=ih
  refine⟨v::vs,.cons h1 i1,fun u hu=> ?_,?_⟩
  ·rcases (List.mem_cons.mp hu) with rfl | hu
   ·exact h2
   ·exact i2 u hu
  ·exact jJa (e_nm h1 h2 hg hn hdb) i3 he
theorem kJ3 {K:PySem.W.Frag} {H:Hp}:∀ {vs us:List Value} {ws:List V},(∀v,v∈vs->Cl1 v)->Reps K H (vs.map clsT) ws->Vals ws us->us=vs
 | [],_,_,_,r,q=>by cases (show _=[] from r);cases q;rfl
 | v::vs,us,ws,h,r,q=>by
  obtain⟨w,ws',e,r1,r2⟩:=(show ∃w ws',ws=w::ws'/\Rep K H (clsT v) w/\Reps K H (vs.map clsT) ws' from r)
  subst e
  cases q with
  | cons q1 q2=>rw[cl_eq (h v (List.mem_cons_self ..)) ⟨w,r1,q1⟩,kJ3 (fun u hu=>h u (List.mem_cons_of_mem _ hu)) r2 q2]
theorem jXv {α β:Type} {F:α->β->Prop} (hF:∀a b b',F a b->F a b'->b=b'):∀ {l:List α} {m n:List β},Paired F l m->Paired F l n->m=n
 | _,_,_,.nil,.nil=>rfl
 | _,_,_,.cons a b,.cons c d=>by rw[hF _ _ _ a c,jXv hF b d]
theorem e_isiT {rel:List (Str×Bool)} {cs:List Str} {es:List Expr} {x:Expr} {tx:TE3} {k} {p pc pos:Pos} (hrel:∀cn b,(cn,b)∈rel->IsX X.K X.mg cs cn b) (hcl:NmL X cs es) (hz:cs.length<=100) (hx:PE3 X x tx) (hm:X.mg "isinstance"=none) (hg:Gl X "isinstance":=by rfl)
  (he:starEach [x,.Tuple es k pc] X.env=(false,eval x X.env)::starEach [.Tuple es k pc] X.env:=by rfl) (he2:starEach [.Tuple es k pc] X.env=[(false,eval (.Tuple es k pc) X.env)]:=by rfl) (hpl:(backTo pos (starEach [.Tuple es k pc] X.env)).any (·.1)=false:=by rfl):
  PE3 X (.Call (.Name "isinstance" p) [x,.Tuple es k pc] [] pos) (kK0 rel tx):=by
 obtain⟨vs,hv,hvc,hpa⟩:=nml_rd hcl
 have hl:vs.length=cs.length:=(Paired.length hv).symm
 intro pins s τ G H Q I h
 obtain⟨σ,I0,_,_⟩:=id I
 refine wpAny_Call_Name_kw (jK1 I0 hg hm rfl ?_ (by decide) (by decide))
 refine PyProof.Rows.callWith_builtin1 ?_ he hpl
 rw[he,he2]
 refine Calls.spliced_cons (thn (hx pins s τ G H _ I h) fun u s1 w_=>w_.el fun y G1 H1 e1 I1 r1 q1=>Calls.spliced_cons (thn (jKu (x1:=k) hpa pins s1 τ G1 H1 (fun t G2=>t= .tup (vs.map clsT)/\G2=G1) I1 ⟨by rw[List.length_map,hl,sizeLine_eq];omega,rfl,rfl⟩) fun u2 s2 w2=>Calls.spliced_nil ?_))
 obtain⟨t2,G2,H2,e2,I2,r2,rfl,rfl⟩:=w2
 obtain⟨a,cn,b,rfl,hG,hin,q⟩:=q1
 obtain⟨D,vs',hD,hk,hp,hka⟩:=(hrel cn b hin).ex
 obtain⟨v1,z1,z2⟩:=r1
 cases z1;cases z2
 cases jXv (F:=fun c v=>ClsV X.mg c v) (fun _ _ _ a b=>kYn a b) hp hv
 obtain⟨σ2,J2,_,_⟩:=id I2
 obtain⟨w2,y1,y2⟩:=r2
 obtain⟨tp,ws,rfl,hH,hr⟩:=(show ∃tp ws,w2= .ref tp/\H2 tp=some (.tup ws)/\Reps X.K H2 (vs.map clsT) ws from y1)
 cases y2
 obtain⟨_,its,hvals,⟨oc,od,odt,osl⟩,hget,hcls,n,hdat,hdic⟩:=(show ws.length<=sizeLine/\∃its:List Value,Vals ws its/\TupD s2.heap tp its.toArray from J2.hok tp _ hH)
 cases kJ3 hvc hr hvals
 dsimp only at hcls hdat hdic
 subst hcls hdat hdic
 exact kia_tup (kKe hk) J2.kIn (kZc I2 hG hD) hget hka (by intro q;cases q) fun tk=>⟨.bl b,G2,H2,e1.trans e2,I2.tok tk,⟨.bl b,rfl,rfl⟩,q⟩
theorem exc_mk {K:PySem.W.Frag} {h:Heap} {mg:Str->Option Value} {cn:Str} {C:Addr} (X:K.In h) (G:h.Ns mainGlobals mg) (a:nsIn K mainGlobals cn=some (some (.ref C))) (q:excIn K C vmro "ValueError.__new__"=true):ExC K mg cn:=⟨C,a,mg_of X G a,q⟩
theorem exsub_mk {K:PySem.W.Frag} {h:Heap} {mg:Str->Option Value} {cn c:Str} {C D:Addr} {v:Bool} (X:K.In h) (G:h.Ns mainGlobals mg) (a:nsIn K mainGlobals cn=some (some (.ref C))) (b:nsIn K mainGlobals c=some (some (.ref D))) (q:exmOne K (.ref C) (.ref D)=some v):ExSub K mg cn c v:=⟨C,D,a,mg_of X G b,q⟩
theorem clsv_own {K:PySem.W.Frag} {h:Heap} {mg:Str->Option Value} {c:Str} {D:Addr} (X:K.In h) (G:h.Ns mainGlobals mg) (b:nsIn K mainGlobals c=some (some (.ref D))):∃v,ClsV mg c v/\Cl1 v:=⟨.ref D,.inl (mg_of X G b),D,.inl rfl⟩
theorem clsv_blt {K:PySem.W.Frag} {h:Heap} {mg:Str->Option Value} {c:Str} {n:String} (X:K.In h) (G:h.Ns mainGlobals mg) (b:nsIn K mainGlobals c=some none) (e:bootBuiltins c=some (.type n)):∃v,ClsV mg c v/\Cl1 v:=⟨.type n,.inr ⟨mg_none_of X G b,e⟩,0,.inr ⟨n,rfl⟩⟩
end
end L3
namespace L3
open PySem
theorem rel1 {K:PySem.W.Frag} {mg:Str->Option Value} {cs:List Str} {cn:Str} {b:Bool} (h:IsX K mg cs cn b):∀cn' b',(cn',b')∈[(cn,b)]->IsX K mg cs cn' b':=fun cn' b' z=>by cases List.mem_singleton.mp z;exact h
theorem sub1 {K:PySem.W.Frag} {mg:Str->Option Value} {cn c:Str} (h:ExSub K mg cn c true):∀cn',cn'∈[cn]->ExSub K mg cn' c true:=fun cn' z=>by cases List.mem_singleton.mp z;exact h
end L3
namespace HT
open PySem PyProof.Rows
section
variable {prog:Program} {w:World} {A:Around} {E:Value->Shared->Prop} {s:Shared}
theorem kQj (n:Nat):Builtin.Slice.sliceAdjust none none (-1) (n:Int)=((n:Int)-1,-1):=by
 simp[Builtin.Slice.sliceAdjust]
theorem kQa (n:Nat):Builtin.Slice.slicePlaces ((n:Int)-1) (-1) (-1)=n:=by
 unfold Builtin.Slice.slicePlaces
 (have h1:¬ ((-1:Int)>0):=by decide)
 have e:((n:Int)-1- -1-1) / (- -1)=(n:Int)-1:=by
  rw[show (- -1:Int)=1 by decide,Int.ediv_one];omega
 simp only[h1,if_false,e]
 split<;>omega
theorem kKk {α β:Type} {f g:α->Option β}:∀ {l:List α},(∀x,x∈l->f x=g x)->l.filterMap f=l.filterMap g
 | [],_=>rfl
 | a::l,h=>by
  rw[List.filterMap_cons,List.filterMap_cons,h a (List.mem_cons_self ..),kKk fun x hx=>h x (List.mem_cons_of_mem _ hx)]
theorem kXm (xs:Array Value):((List.range xs.size).filterMap fun (m:Nat)=>xs[((xs.size:Int)-1+(m:Int)*(-1)).toNat]?).toArray=xs.toList.reverse.toArray:=by
 have e:((List.range xs.size).filterMap fun (m:Nat)=>xs[((xs.size:Int)-1+(m:Int)*(-1)).toNat]?)=((List.range xs.size).map fun k=>xs.size-1-k).filterMap (xs[·]?):=by
  rw[List.filterMap_map]
  apply kKk
  intro k hk
  have:=List.mem_range.mp hk
  show xs[((xs.size:Int)-1+(k:Int)*(-1)).toNat]? =xs[xs.size-1-k]?
  congr 1;omega
 rw[e,PySem.W.krv_range,List.filterMap_reverse,PySem.W.krv_all]
theorem jVb {sl:Addr} {vk:Value} {n:Nat} {Q:Int×Int×Nat->Shared->Prop} (hs:s.heap.IsSliceOf sl .none .none vk) (pk:IsPart vk (some (-1)))
  (h:Q ((n:Int)-1,-1,n) s):wpAny (model prog w) A (Builtin.Slice.sliceApplied (.ref sl) (pure (n:Int))) Q E s:=by
 obtain⟨os,hos,hcs,hds⟩:=id hs
 unfold Builtin.Slice.sliceApplied Builtin.Slice.sliceFields
 refine wpAny_bind (wpAny_bind (wpAny_field hos hds (x:= .none) rfl (wpAny_bind (wpAny_field hos hds (x:= .none) rfl (wpAny_bind (wpAny_field hos hds (x:=vk) rfl (wpAny_pure ?_)))))))
 refine wpAny_bind (kK1 pk ?_)
 show wpAny _ _ (if ((-1:Int) == 0)=true then _ else _) _ _ s
 rw[if_neg (by decide)]
 refine wpAny_bind (slicePart_none (wpAny_bind (slicePart_none (wpAny_bind (wpAny_pure ?_)))))
 show wpAny _ _ (match Builtin.Slice.sliceAdjust none none (-1) (n:Int) with | (lo,hi)=>pure (lo,(-1:Int),Builtin.Slice.slicePlaces lo hi (-1))) _ _ s
 rw[kQj n]
 show wpAny _ _ (pure ((n:Int)-1,(-1:Int),Builtin.Slice.slicePlaces ((n:Int)-1) (-1) (-1))) _ _ s
 rw[kQa]
 exact wpAny_pure h
theorem getItem_tuple_rev {t sl:Addr} {items:Array Value} {vk:Value} {Q:Value->Shared->Prop} (ht:IsTup s.heap t items) (hs:s.heap.IsSliceOf sl .none .none vk) (pk:IsPart vk (some (-1)))
  (h:Q (.ref s.heap.objs.size) {s with heap:=s.heap.push {cls:= .type "tuple",data:= .seq items.toList.reverse.toArray} })
  (hsz:items.size<=sizeLine):wpAny (model prog w) A (getItem (.ref t) (.ref sl)) Q E s:=by
 have htake:sizeOk (.seq items.toList.reverse.toArray):=by
  show items.toList.reverse.toArray.size<=sizeLine
  rw[List.size_toArray,List.length_reverse,Array.length_toList];exact hsz
 obtain⟨os,hos,hcs,hds⟩:=id hs
 have hTs:s.TypeIs (.ref sl) "slice":=⟨os,hos,hcs⟩
 unfold getItem
 try with_reducible refine wpAny_holding ?_
 first | refine wpAny_bind (wpAny_pure ?_) | skip
 refine wpAny_bind (wpAny_sequenceKey ht.typeIs (by decide) ?_)
 refine wpAny_bind (wpAny_callSpecial?_slot (name:=Str.ofString "__getitem__") ht.typeIs PyProof.Rows.slot_tuple_getitem
  (wpAny_call_entry PyProof.Rows.slot_tuple_getitem ht.typeIs entry_tuple_getitem ?_ (args_tuple_getitem _ _)))
 show wpAny _ _ (Builtin.Tuple.tupleItemsOf (.ref t) >>= _) _ _ s
 refine wpAny_bind (tupleItemsOf_ ht ?_)
 refine wpAny_bind (wpAny_typeOf hTs ?_)
 rw[if_pos (by decide)]
 refine wpAny_bind (jVb hs pk ?_)
 have hno:¬ ((((items.size:Int)-1) == 0&&(-1:Int) == 1&&items.size == items.size)=true):=by
  rw[show ((-1:Int) == 1)=false by decide];simp
 show wpAny _ _ (if (((items.size:Int)-1) == 0&&(-1:Int) == 1&&items.size == items.size)=true then _ else _) _ _ s
 rw[if_neg hno,kXm]
 first
  | exact wpAny_bind (m:=Builtin.Tuple.tupleExact _) (wpAny_newObj_type (wpAny_pure ⟨_,rfl,wpAny_pure h⟩) htake)
  | exact wpAny_bind (m:=Builtin.Tuple.tupleExact _) (wpAny_newObj_type (wpAny_bind (wpAny_pure (wpAny_pure ⟨_,rfl,wpAny_pure h⟩))) htake)
  | exact wpAny_bind (wpAny_bind (m:=Builtin.Tuple.tupleExact _) (wpAny_newObj_type (wpAny_pure (wpAny_pure ⟨_,rfl,wpAny_pure h⟩)) htake))
end
end HT
namespace L3
open PySem PySem.Spec PyProof.Rows L2
section
variable {X:Cx}
def kQw (te:TE3) (tk:TO3):TE3:=fun τ G Q=>te τ G fun x G1=>tk τ G1 fun k G2=>k=some (-1)/\∃xs,x= .tup xs/\Q (.tup xs.reverse) G2
theorem e_revT {e st:Expr} {te:TE3} {tk:TO3} {pos p2:Pos} (he:PE3 X e te) (hk:PO3 X (some st) tk):PE3 X (.Subscript e (.Slice none none (some st) p2) pos) (kQw te tk):=by
 intro pins s τ G H Q I h
 refine Subscript_ (thn (he pins s τ G H _ I h) fun v s1 w_=>w_.el fun x G1 H1 e1 I1 r1 q1=> ?_)
 refine wpAny_Slice ?_
 rw[evalPart_none]
 refine wpAny_pure (wpAny_pure (thn (hk pins s1 τ G1 H1 _ I1 q1) fun vk s3 ⟨k,G3,H3,e3,⟨σ,I3,hs3,hg3⟩,pk,ek,xs,hx,q3⟩=> ?_))
 subst ek hx
 have I4:Inv X pins σ H3 {s3 with heap:=s3.heap.push {cls:= .type "slice",data:= .fields #[.none,.none,vk]} }:=I3.kept (t':=s3.toks) fun b ob q=>Heap.get?_push_of_some _ q
 obtain⟨a,ra,rv⟩:=r1.mono e3
 obtain⟨p,vs,ea,h1,h2⟩:=(show ∃p vs,a= .ref p/\H3 p=some (.tup vs)/\Reps X.K H3 xs vs from ra)
 subst ea
 cases rv
 obtain⟨its,rr,ht,hz⟩:=I4.tuple (.of h1)
 have hlen:=rr.length
 have hg:wpAny (model X.prog X.w) X.A (getItem (.ref p) (.ref s3.heap.objs.size)) (EP3 X pins τ H3 Q) X.xe {s3 with heap:=s3.heap.push {cls:= .type "slice",data:= .fields #[.none,.none,vk]} }:=by
  refine HT.getItem_tuple_rev ht (Heap.IsSliceOf.new ..) pk ?_ (by rw[List.size_toArray];omega)
  have hl:=I4.hok.fresh (Nat.le_refl _)
  refine jUb hs3 ⟨.ref _,_,I4.laid (t':=s3.toks) (o:= .tup vs.reverse) (fun b ob q=>Heap.get?_push_of_some _ q) (Nat.le_refl _) ⟨by rw[List.length_reverse];exact hz,_,kQo rr,TupD.new _ _⟩,rfl,?_⟩
  exact⟨.tup xs.reverse,_,.upd (.none hl),hg3.tupNew hl,Rep.tupNew (kQ7 h2) hl,q3⟩
 show wpAny (model X.prog X.w) X.A (subscriptTail e (.Slice none none (some st) p2) (.ref p) (.ref s3.heap.objs.size)) (EP3 X pins τ H Q) X.xe {s3 with heap:=s3.heap.push {cls:= .type "slice",data:= .fields #[.none,.none,vk]} }
 exact thn (tail_any (ops:=[.ref p,.ref s3.heap.objs.size]) ht.typeIs PyProof.Rows.slot_tuple_getitem.lookup hg (by with_unfolding_all rfl)) fun _ _ z=>z.ext (e1.trans e3)
end
end L3
namespace W
open PySem L3
local macro_rules
 | `(tactic| wp_walk using 1, $ts,*) => do
  let ls ← ts.getElems.mapM fun t => `(Lean.Parser.Tactic.simpLemma| $t:term)
  let ns ← ("tSeq tIfS jKa tOp rGt rLt rGe rSub L3.rI0 L3.rI rIxF tVar tC tAsg tCB jJc tNil kJg rLen rAbs rMax kUd gTup jJx gNil gSub jJg jQk tRet tRetN jQt jUk jJw tLst tTup tIf tNot tAnd tOr kQz tOrV tNotV tPar jJz jQy rMod kXi rPow rIsN rNotN qJj tTru rTru truT tUn rNeg kYq kXv kXx kXw qJq kU7 qJf qJg at0 at1 at2 ix30 ix31 ix32 kV9 kV6 qJh kXa Option.map_some and_assoc T.int.injEq T.bl.injEq T.tup.injEq T.ref.injEq List.cons.injEq and_true true_and exists_eq_left exists_eq_left' exists_and_left exists_eq_right List.getElem?_cons_zero List.getElem?_cons_succ List.set_cons_zero List.set_cons_succ List.length_cons List.length_nil Nat.reduceAdd Option.some.injEq jJh kU3 reduceCtorEq false_and exists_false exists_const Bool.true_eq Bool.not_eq_true' Bool.not_true Bool.not_false if_true if_false decide_eq_true_eq tBM jKf jV3 jJ8 kV2 jK2 GO.lst.injEq msk List.zipWith_cons_cons List.zipWith_nil_left List.zipWith_nil_right Bool.false_eq_true kZm".splitOn " ").toArray.mapM fun n => `(Lean.Parser.Tactic.simpLemma| $(Lean.mkIdent n.toName):term)
  let al:=ns++ls
  `(tactic| ((try dsimp only [$al,*]); (try simp only [$al,*])))
local macro_rules
 | `(tactic| omega) => `(tactic| first | exact szle rfl | lia)
def BoxAt (G:Gp) (b:Addr) (n:Nat):Prop:=∃x y z:Int,G b=some (.lst [.int x,.int y,.int z])/\0<=x/\0<=y/\y<2147483648/\0<=z/\z<=n
def Keep (b:Addr) (G G':Gp):Prop:=∀c o,c≠b->G c=some o->G' c=some o
theorem Keep.trans {b:Addr} {G G1 G2:Gp} (h:Keep b G G1) (h':Keep b G1 G2):Keep b G G2:=fun c o hc e=>h' c o hc (h c o hc e)
theorem Keep.gup {b:Addr} {G:Gp} {o:GO}:Keep b G (gup G b o):=fun c u hc e=>by rw[jJn hc];exact e
theorem Keep.new {b p:Addr} {G:Gp} {o:GO} (hp:G p=none):Keep b G (L3.gup G p o):=fun c u _ e=>by rw[jJn];exact e;rintro rfl;rw[hp] at e;cases e
abbrev RdOk (sp:Sp3) (rd:TS3) (N:List Str):Prop:=∀xs G Q,sp xs G Q->rd {nx:=fun _ G'=>Q .non G',rt:=Q} (jQp N xs) G
noncomputable def jJq:Sp3:=fun xs G Q=>∃(b:Addr) (m:Int) (n:Nat),xs=[.ref b,.int m]/\BoxAt G b n/\n<2^40/\1<=m/\m<2^29/\∀(r:Int) G',0<=r->r<m->BoxAt G' b (n+1)->Keep b G G'->Q (.int r) G'
def kYu:List Str:=["_law_box_here","_law_many","_law_found","_law_once"]
noncomputable def jVy:TS3:=
 (tSeq (tIfS (jKa (tOp rGt (tOp rIxF (tVar 0) (tC (.int 0))) (tC (.int 0)))) (tSeq (tAsg (tCB kJg (jJc (tOp rIxF (tVar 0) (tC (.int 0))) (jJc (tVar 1) tNil))) (gTup 2 (jJx (gSub (tVar 0) (tC (.int 0)) jQk) (jJx (jJg 2) gNil))))
 (tRet (tVar 2))) jQt)
 (tSeq (tAsg (tOp jJz (tOp rIxF (tVar 0) (tC (.int 2))) (tC (.int 1))) (gSub (tVar 0) (tC (.int 2)) jQk))
 (tSeq (tAsg (tOp rMod (tOp jQy (tOp jJz (tOp rIxF (tVar 0) (tC (.int 1))) (tOp jQy (tC (.int 39373)) (tOp rIxF (tVar 0) (tC (.int 2))))) (tOp jJz (tC (.int 48271)) (tOp rIxF (tVar 0) (tC (.int 2))))) (tC (.int 2147483647))) (jJg 3))
 (tSeq (tAsg (tOp rMod (tOp jJz (tOp jQy (tVar 3) (tOp jJz (tOp rMod (tVar 3) (tC (.int 40009))) (tC (.int 7)))) (tOp rIxF (tVar 0) (tC (.int 2)))) (tC (.int 2147483629))) (gSub (tVar 0) (tC (.int 1)) jQk))
 (tRet (tOp rMod (tOp kXi (tOp rMod (tOp jQy (tOp rIxF (tVar 0) (tC (.int 1))) (tOp jJz (tOp rMod (tOp rIxF (tVar 0) (tC (.int 1))) (tC (.int 1009))) (tC (.int 3)))) (tC (.int 998244353))) (tC (.int 7))) (tVar 1)))))))
theorem kJa:RdOk jJq jVy kYu:=by
 intro xs G Q h_;apply xe3 h_;clear h_;intro b m n h_;apply ae5 h_;clear h_;intro q0_ hn hm1 hm2 k
 obtain⟨x,y,z,hb,hx,hy0,hy1,hz0,hz1⟩:=q0_
 show jVy _ [some (.ref b),some (.int m),none,none] G
 wp_walk using 1,jVy,jKd hb,kY0 hb
 have box:∀x' y' z':Int,0<=x'->0<=y'->y'<2147483648->0<=z'->z'<=n+1->BoxAt (gup G b (.lst [.int x',.int y',.int z'])) b (n+1):=fun x' y' z' h1 h2 h3 h4 h5=>⟨x',y',z',jJh,h1,h2,h3,h4,by omega⟩
 split
 ·refine⟨⟨by omega,by omega⟩,k _ _ (Int.emod_nonneg _ (by omega)) (Int.emod_lt_of_pos _ (by omega)) (box _ _ _ (Int.ediv_nonneg hx (by omega)) hy0 hy1 hz0 (by omega)) .gup⟩
 ·have a0:=Int.emod_nonneg ((y+39373*(z+1))*(48271+(z+1))) (b:=2147483647) (by decide)
  have a1:=Int.emod_lt_of_pos ((y+39373*(z+1))*(48271+(z+1))) (b:=2147483647) (by decide)
  refine⟨.inl (by decide),.inr ⟨by omega,by omega⟩,by decide,by decide,?_⟩
  generalize (y+39373*(z+1))*(48271+(z+1))%2147483647=u at a0 a1 ⊢
  have b0:=Int.emod_nonneg (u*(u%40009+7)+(z+1)) (b:=2147483629) (by decide)
  have b1:=Int.emod_lt_of_pos (u*(u%40009+7)+(z+1)) (b:=2147483629) (by decide)
  refine⟨.inl ⟨by omega,by omega⟩,by decide,by decide,?_⟩
  generalize (u*(u%40009+7)+(z+1))%2147483629=v at b0 b1 ⊢
  refine⟨.inl ⟨by omega,by omega⟩,by decide,⟨by decide,by decide⟩,by omega,?_⟩
  exact k _ _ (Int.emod_nonneg _ (by omega)) (Int.emod_lt_of_pos _ (by omega)) (box _ _ _ hx b0 (by omega) (by omega) (by omega)) .gup
abbrev jV9 (ns:List Int):List T:=ns.map T.int
theorem sz:sizeLine=16777216:=PySem.sizeLine_eq
def jYb:Sp3:=fun xs G Q=>∃(ns:List Int) (k:Int),xs=[.scr (jV9 ns),.int k]/\ns.length<=63/\0<=k/\k<100/\∀p G',G p=none->BoxAt G' p 0->Sub G G'->Q (.ref p) G'
def qJ6:List Str:=["_law_script","_law_k","_law_cell"]
noncomputable def jYi:TS3:=
 (tSeq (tAsg (tOp rIxF (tOp rAddS (tVar 0) (tOp jQy (tLst (jJc (tC (.int 0)) tNil)) (tOp jJz (tVar 1) (tC (.int 1))))) (tVar 1)) (jJg 2))
 (tRet (tLst (jJc (tOp jQy (tCB rAbs (jJc (tVar 2) tNil)) (tCB kUd (jJc (tOp rGe (tCB rAbs (jJc (tVar 2) tNil)) (tOp rPow (tC (.int 10)) (tC (.int 18)))) tNil))) (jJc (tOp rMod (tOp jQy (tOp jJz (tOp jJz (tOp rMod (tVar 2) (tC (.int 2147483647))) (tOp jQy (tC (.int 7919)) (tVar 1))) (tC (.int 11))) (tC (.int 48271))) (tC (.int 2147483629))) (jJc (tC (.int 0)) tNil))))))
theorem kK6:RdOk jYb jYi qJ6:=by
 intro xs G Q h_;apply xe2 h_;clear h_;intro ns k h_;apply ae4 h_;clear h_;intro hl hk0 hk1 kk
 show jYi _ [some (.scr (jV9 ns)),some (.int k),none] G
 have hs:=sz
 wp_walk using 1,jYi
 refine⟨by omega,fun p hp=> ?_⟩
 have e1:mulR (gup G p (GO.lst [T.int 0])) (.ref p) (.int (k+1))=some (.newL (List.replicate (k+1).toNat [T.int 0]).flatten):=by
  simp only[mulR,jJh];rw[if_pos];refine⟨?_,?_,?_⟩<;>simp<;>omega
 wp_walk using 1,e1
 intro q hq
 obtain⟨hqp,hq0⟩:=jKk hq
 have hfl:(List.replicate (k+1).toNat [T.int 0]).flatten=List.replicate (k+1).toNat (T.int 0):=by
  induction (k+1).toNat with
  | zero=>rfl
  | succ n ih=>rw[List.replicate_succ,List.flatten_cons,ih];rfl
 refine⟨_,show asL (gup _ q _ q)=_ by rw[jJh];rfl,by rw[hfl];simp;omega,?_⟩
 intro r hr
 obtain⟨hrq,hr1⟩:=jKk hr
 obtain⟨hrp,hr0⟩:=jKk hr1
 obtain⟨v,hv⟩:∃v:Int,L2.atI (jV9 ns++(List.replicate (k+1).toNat [T.int 0]).flatten) k=some (.int v):=by
  rw[atZ hk0,hfl]
  by_cases h:k.toNat<ns.length
  ·rw[List.getElem?_append_left (by simpa using h)]
   exact⟨ns[k.toNat],by simp[h]⟩
  ·rw[List.getElem?_append_right (by simpa using h),List.getElem?_replicate]
   exact⟨0,by rw[if_pos];simp;omega⟩
 wp_walk using 1,hv
 refine⟨⟨by decide,by decide,by decide⟩,.inr (by split<;>split<;>decide),by decide,.inl (by decide),.inr (by decide),by decide,by omega,fun b hbn=> ?_⟩
 obtain⟨hbr,hb1⟩:=jKk hbn
 obtain⟨hbq,hb2⟩:=jKk hb1
 obtain⟨hbp,hb0⟩:=jKk hb2
 refine kk b _ hb0 ⟨_,_,_,jJh,Int.mul_nonneg (by split<;>omega) (by split<;>split<;>decide),Int.emod_nonneg _ (by decide),?_,Int.le_refl _,by simp⟩ ((((Sub.new hp).over hq0).over hr0).over hb0)
 have:=Int.emod_lt_of_pos ((v%2147483647+7919*k+11)*48271) (b:=2147483629) (by decide)
 omega
abbrev Web:=List (List (Nat×Nat))
def encE (e:Nat×Nat):T:= .tup [.int e.1,.int e.2]
def encR (r:List (Nat×Nat)):T:= .tup (r.map encE)
def encW (W:Web):T:= .tup (W.map encR)
def en (W:Web) (r i:Nat):Option (Nat×Nat):=(W[r]?).bind fun es=>es[i]?
def Sym (W:Web):Prop:=∀r i s j,en W r i=some (s,j)->en W s j=some (r,i)
def sw:Nat->Nat
 | 0=>1
 | 1=>0
 | n=>n
theorem sw_sw {n:Nat} (h:n<=2):sw (sw n)=n/\sw n<=2:=by
 have:n=0\/n=1\/n=2:=by omega
 rcases this with rfl | rfl | rfl<;>exact⟨rfl,by decide⟩
noncomputable def RowsAt (G:Gp) (h:Addr) (Hs:Web) (rs:List Addr):Prop:=G h=some (.lst (rs.map T.ref))/\rs.length=Hs.length/\∀(i:Nat) (r:Addr),rs[i]? =some r->∃hs:List (Nat×Nat),Hs[i]? =some hs/\G r=some (.lst (hs.map encE))
theorem RowsAt.sub {G G':Gp} {h:Addr} {Hs:Web} {rs:List Addr} (s:Sub G G') (x:RowsAt G h Hs rs):RowsAt G' h Hs rs:=⟨s _ _ x.1,x.2.1,fun i r e=>let ⟨hs,h1,h2⟩:=x.2.2 i r e;⟨hs,h1,s _ _ h2⟩⟩
structure JoinOk (Hs:Web):Prop where
 len:Hs.length<=1000
 row:∀(r:Nat) (hs:List (Nat×Nat)),Hs[r]? =some hs->hs.length<=1000
 inj:∀r i r' i' h,en Hs r i=some h->en Hs r' i'=some h->r=r'/\i=i'
 part:∀r i t s,en Hs r i=some (t,s)->s<=2/\∃r' i',en Hs r' i'=some (t,sw s)
def keyE (e:Nat×Nat):L2.TKey:=[.inl (.inl (e.1:Int)),.inl (.inl (e.2:Int))]
theorem kX2 {a b:Nat×Nat} (h:keyE a=keyE b):a=b:=by
 obtain⟨a1,a2⟩:=a;obtain⟨b1,b2⟩:=b
 simp only[keyE,List.cons.injEq,Sum.inl.injEq,and_true] at h
 obtain⟨h1,h2⟩:=h
 rw[Int.ofNat.inj h1,Int.ofNat.inj h2]
theorem jXx {a b:Int}:jUs [.int a,.int b]=some [.inl (.inl a),.inl (.inl b)]:=rfl
theorem kVy {κ:Type} [DecidableEq κ] (kvs:List (κ×T)) (k j:κ) (v:T):valT (putT kvs k v) j=if k=j then some v else valT kvs j:=by
 unfold putT valT
 by_cases h:(kvs.any fun kv=>decide (kv.1=k))=true
 ·rw[if_pos h]
  induction kvs with
  | nil=>simp at h
  | cons p ps ih=>
   rw[List.map_cons,List.find?_cons,List.find?_cons]
   by_cases hp:p.1=k
   ·rw[if_pos hp]
    by_cases hj:k=j
    ·simp[hp,hj]
    ·have h1:¬ p.1=j:=fun z=>hj (hp.symm.trans z)
     simp only[h1,decide_false,hj,if_false]
     by_cases h2:(ps.any fun kv=>decide (kv.1=k))=true
     ·have:=ih h2;rw[if_neg hj] at this;exact this
     ·have hm:ps.map (fun kv=>if kv.1=k then (kv.1,v) else kv)=ps:=by
       rw[List.map_congr_left (g:=id)];· simp
       intro a ha
       have:¬ a.1=k:=fun z=>h2 (List.any_eq_true.mpr ⟨a,ha,by simp[z]⟩)
       simp[this]
      rw[hm]
   ·rw[if_neg hp]
    have h2:(ps.any fun kv=>decide (kv.1=k))=true:=by
     rw[List.any_cons,decide_eq_false hp,Bool.false_or] at h;exact h
    have:=ih h2
    by_cases hj:p.1=j
    ·have:¬ k=j:=fun z=>hp (hj.trans z.symm)
     simp[hj,this]
    ·simp only[hj,decide_false];exact this
 ·rw[if_neg h,List.find?_append]
  have hn:(kvs.find? fun kv=>decide (kv.1=j))=none\/∃p,(kvs.find? fun kv=>decide (kv.1=j))=some p:=by
   cases kvs.find? fun kv=>decide (kv.1=j) with
   | none=>exact .inl rfl
   | some p=>exact .inr ⟨p,rfl⟩
  by_cases hj:k=j
  ·subst hj
   have:(kvs.find? fun kv=>decide (kv.1=k))=none:=by
    rw[List.find?_eq_none]
    intro a ha z
    exact h (List.any_eq_true.mpr ⟨a,ha,z⟩)
   simp[this]
  ·rcases hn with e | ⟨p,e⟩
   ·simp[e,hj]
   ·simp[e,hj]
theorem kXl {κ:Type} [DecidableEq κ] (kvs:List (κ×T)) (k:κ) (v:T):(putT kvs k v).length<=kvs.length+1:=by
 unfold putT;split<;>simp
theorem qJx {G:Gp} {p:Addr} {kvs:List (L2.TKey×T)} {ys:List T} {ks:L2.TKey} (h:G p=some (.dct kvs)) (hk:jUs ys=some ks):dAt G (.ref p) (.tup ys)=some (valT kvs ks):=by simp only[dAt,h,hk]
theorem qJi {G:Gp} {p:Addr} {kvs:List (L2.TKey×T)} {ys:List T} {ks:L2.TKey} {t:T} (h:G p=some (.dct kvs)) (hk:jUs ys=some ks) (ht:valT kvs ks=some t):ixR G (.ref p) (.tup ys)=some t:=by
 simp only[ixR,seqT,h,asL,qJx h hk,ht]
theorem kV7 {G:Gp} {p:Addr} {kvs:List (L2.TKey×T)} {ys:List T} {ks:L2.TKey} {v:T} (h:G p=some (.dct kvs)) (hk:jUs ys=some ks) (hz:kvs.length<sizeLine):setR G (.ref p) (.tup ys) v=some (gup G p (.dct (putT kvs ks v))):=by
 simp only[setR,h,hk,hz,if_true]
theorem jJ5 {W:Web} {r i:Nat} {e:Nat×Nat} (h:en W r i=some e):∃es,W[r]? =some es/\es[i]? =some e:=by
 unfold en at h
 cases e1:W[r]? with
 | none=>rw[e1] at h;cases h
 | some es=>rw[e1] at h;exact⟨es,rfl,h⟩
theorem jQ1 {W:Web} {r i:Nat} {es:List (Nat×Nat)} {e:Nat×Nat} (h1:W[r]? =some es) (h2:es[i]? =some e):en W r i=some e:=by unfold en;rw[h1];exact h2
structure Joined (Hs W:Web):Prop where
 len:W.length=Hs.length
 row:∀(r:Nat) (hs:List (Nat×Nat)),Hs[r]? =some hs->∃es,W[r]? =some es/\es.length=hs.length
 to:∀r i t sd s j,en Hs r i=some (t,sd)->en Hs s j=some (t,sw sd)->en W r i=some (s,j)
theorem Joined.sym {Hs W:Web} (J:Joined Hs W) (ok:JoinOk Hs):Sym W:=by
 intro r i s j h
 obtain⟨es,h1,h2⟩:=jJ5 h
 have hr:r<Hs.length:=by rw[<-J.len];exact (List.getElem?_eq_some_iff.mp h1).1
 obtain⟨es',h3,h4⟩:=J.row r _ (List.getElem?_eq_getElem hr)
 rw[h1] at h3;cases h3
 have hi:i<Hs[r].length:=by rw[<-h4];exact (List.getElem?_eq_some_iff.mp h2).1
 have e1:en Hs r i=some (Hs[r][i]):=jQ1 (List.getElem?_eq_getElem hr) (List.getElem?_eq_getElem hi)
 generalize Hs[r][i]=e0 at e1
 obtain⟨t,sd⟩:=e0
 obtain⟨hsd,r',i',e2⟩:=ok.part r i t sd e1
 have e3:=J.to r i t sd r' i' e1 e2
 rw[h] at e3
 cases e3
 refine J.to s j t (sw sd) r i e2 ?_
 rw[(sw_sw hsd).1];exact e1
open Classical in
def oth (Hs:Web) (e:Nat×Nat):Nat×Nat:=if h:∃p:Nat×Nat,en Hs p.1 p.2=some (e.1,sw e.2) then h.choose else (0,0)
theorem kY5 {Hs:Web} {e:Nat×Nat} {r i:Nat} (h:en Hs r i=some (e.1,sw e.2)):en Hs (oth Hs e).1 (oth Hs e).2=some (e.1,sw e.2):=by
 unfold oth
 have:∃p:Nat×Nat,en Hs p.1 p.2=some (e.1,sw e.2):=⟨(r,i),h⟩
 rw[dif_pos this];exact this.choose_spec
theorem kQf {Hs:Web} (ok:JoinOk Hs):Joined Hs (Hs.map (List.map (oth Hs))) where
 len:=by simp
 row:=fun r hs h=>⟨hs.map (oth Hs),by simp[h],by simp⟩
 to:=fun r i t sd s j h1 h2=>by
  obtain⟨es,q1,q2⟩:=jJ5 h1
  have:en (Hs.map (List.map (oth Hs))) r i=some (oth Hs (t,sd)):=jQ1 (es:=es.map (oth Hs)) (by simp[q1]) (by simp[q2])
  rw[this]
  have h3:=kY5 (e:=(t,sd)) h2
  obtain⟨z1,z2⟩:=ok.inj _ _ _ _ _ h3 h2
  rw[<-z1,<-z2]
def jUf:Sp3:=fun xs G Q=>∃(h:Addr) (Hs:Web) (rs:List Addr),xs=[.ref h]/\RowsAt G h Hs rs/\JoinOk Hs/\∀G' W,Sub G G'->Joined Hs W->Q (encW W) G'
def kQl:List Str:=["_law_halves","_law_at","_law_room","_law_door","_law_half","_law_web_here","_law_doors","_law_tie","_law_side"]
noncomputable def jUg:TS3:=
 (tSeq (tAsg jZ2 (jJg 1))
 (tSeq (tFor (jKb (jJc (tCB rLen (jJc (tVar 0) tNil)) tNil)) (jJg 2) (tFor (kJs (jJc (tOp rIxF (tVar 0) (tVar 2)) tNil)) (gTup 2 (jJx (jJg 3) (jJx (jJg 4) gNil))) (tAsg (tTup (jJc (tVar 2) (jJc (tVar 3) tNil))) (gSub (tVar 1) (tVar 4) jQk))))
 (tSeq (tAsg (tLst tNil) (jJg 5))
 (tSeq (tFor (iSeq (tVar 0)) (jJg 6) (jUk (tBM "list" jKf (tVar 5) (jJc (tCB jJ8 (jJc (jKq [false,false,false,false,false,false,false,true,true] (iSeq (tVar 6)) (gTup 2 (jJx (jJg 7) (jJx (jJg 8) gNil))) jK2 (tOp rIxF (tVar 1) (tTup (jJc (tVar 7) (jJc (tOp rIxF (tLst (jJc (tC (.int 1)) (jJc (tC (.int 0)) (jJc (tC (.int 2)) tNil)))) (tVar 8)) tNil))))) tNil)) tNil))))
 (tRet (tCB jJ8 (jJc (tVar 5) tNil)))))))
def Tab (Hs:Web) (kvs:List (L2.TKey×T)) (done:Nat->Nat->Prop):Prop:=∀r i e,en Hs r i=some e->done r i->valT kvs (keyE e)=some (encE (r,i))
theorem jYc {n i:Nat} {x:T} (h:(rngT 0 n)[i]? =some x):i<n/\x= .int i:=by
 unfold rngT at h
 rw[List.getElem?_map] at h
 have hi:i<n:=by
  rcases Nat.lt_or_ge i n with z | z
  ·exact z
  ·rw[List.getElem?_eq_none (by simpa using z)] at h;cases h
 simp[hi] at h
 exact⟨hi,h.symm⟩
theorem jK6 {n:Nat}:(rngT 0 n).length=n:=by simp[rngT]
theorem jYe:RdOk jUf jUg kQl:=by
 intro xs G Q h_;apply xe3 h_;clear h_;intro h Hs rs h_;apply ae3 h_;clear h_;intro q0_ ok kk
 obtain⟨hh,hlen,hrow⟩:=q0_
 show jUg _ [some (.ref h),none,none,none,none,none,none,none,none] G
 have hs:=sz
 have hL:=ok.len
 wp_walk using 1,jUg,jZ2,jJv,jKb
 refine .inl fun d hd=> ?_
 have hhd:=jJe hh hd
 have hrl:(rs.map T.ref).length=Hs.length:=by simp[hlen]
 refine⟨rs.map T.ref,by simp only[seqT,jJn hhd,hh,asL],by rw[hrl];omega,by rw[hrl];omega,?_⟩
 rw[hrl,show ((Hs.length:Int)).toNat=Hs.length by omega]
 refine⟨fun r τ G'=>∃(v2 v3 v4:Option T) (kvs:List (L2.TKey×T)),τ=[some (.ref h),some (.ref d),v2,v3,v4,none,none,none,none]/\G' d=some (.dct kvs)/\kvs.length<=1000*r/\Tab Hs kvs (fun r' _=>r'<r)/\Sub G G',?_,?_,?_,?_⟩
 ·exact⟨none,none,none,[],rfl,jJh,Nat.zero_le _,fun r i e _ z=>absurd z (Nat.not_lt_zero _),.new hd⟩
 ·intros;trivial
 ·intro r x τ G1 hx h_;apply xe4 h_;clear h_;intro v2 v3 v4 kvs h_;apply ae4 h_;clear h_;intro hdk hkl tab sb
  obtain⟨hr,rfl⟩:=jYc hx
  have hri:r<rs.length:=by omega
  obtain⟨hs',hH,hG⟩:=hrow r rs[r] (List.getElem?_eq_getElem hri)
  have hh1:=sb _ _ hh
  have hG1:=sb _ _ hG
  have hat:L2.atI (rs.map T.ref) (r:Int)=some (.ref rs[r]):=by rw[atN];simp[hri]
  have hrow1000:=ok.row r hs' hH
  wp_walk using 1,jJv,kJs,jKd hh1,hat
  refine⟨hs'.map encE,by simp only[jK0,hG1,asL],?_⟩
  refine⟨fun i τ G'=>∃(v3 v4:Option T) (kvs:List (L2.TKey×T)),τ=[some (.ref h),some (.ref d),some (.int r),v3,v4,none,none,none,none]/\G' d=some (.dct kvs)/\kvs.length<=1000*r+i/\Tab Hs kvs (fun r' i'=>r'<r\/(r'=r/\i'<i))/\Sub G G',?_,?_,?_,?_⟩
  ·exact⟨v3,v4,kvs,rfl,hdk,hkl,fun r' i' e he hd'=>tab r' i' e he (by rcases hd' with z | ⟨_,z⟩;exact z;exact absurd z (Nat.not_lt_zero _)),sb⟩
  ·intro i τ G' hi h_;apply xe3 h_;clear h_;intro v3 v4 kvs h_;apply ae4 h_;clear h_;intro h1 h2 h3 h4
   simp only[jK0,h4 _ _ hG,asL]
  ·intro i x τ G2 hx h_;apply xe3 h_;clear h_;intro v3 v4 kvs h_;apply ae4 h_;clear h_;intro h1 h2 h3 h4
   have hi:i<hs'.length:=by have:=(List.getElem?_eq_some_iff.mp hx).1;simpa[jJ0] using this
   have hri2:(hs'.map encE)[i]? =some (encE hs'[i]):=by simp[hi]
   rw[jQ8 hri2] at hx
   cases hx
   have hz:kvs.length<sizeLine:=by omega
   wp_walk using 1,encE,kV7 h1 jXx hz
   refine⟨by omega,?_⟩
   refine⟨putT kvs (keyE hs'[i]) (encE (r,i)),rfl,by have:=kXl kvs (keyE hs'[i]) (encE (r,i));omega,fun r' i' e he hd'=> ?_,h4.over hd⟩
   show valT (putT kvs (keyE hs'[i]) _) (keyE e)=_
   rw[kVy]
   have eri:en Hs r i=some hs'[i]:=jQ1 hH (List.getElem?_eq_getElem hi)
   by_cases hk:keyE hs'[i]=keyE e
   ·rw[if_pos hk]
    have:=kX2 hk
    subst this
    obtain⟨z1,z2⟩:=ok.inj _ _ _ _ _ eri he
    subst z1;subst z2;rfl
   ·rw[if_neg hk]
    refine h3 r' i' e he ?_
    rcases hd' with z | ⟨z1,z2⟩
    ·exact .inl z
    ·subst z1
     by_cases hii:i'=i
     ·subst hii;rw[eri] at he;cases he;exact absurd rfl hk
     ·exact .inr ⟨rfl,by omega⟩
  ·intro τ G' h_;apply xe3 h_;clear h_;intro v3 v4 kvs h_;apply ae4 h_;clear h_;intro h1 h2 h3 h4
   refine⟨some (.int r),v3,v4,rfl,kvs,h1,?_,fun r' i' e he hd'=>h3 r' i' e he ?_,h4⟩
   ·simp only[jJ0,List.length_map] at h2;omega
   ·rcases Nat.lt_or_ge r' r with z | z
    ·exact .inl z
    ·have:r'=r:=by omega
     subst this
     obtain⟨es,q1,q2⟩:=jJ5 he
     rw[hH] at q1;cases q1
     exact .inr ⟨rfl,by simpa[jJ0] using (List.getElem?_eq_some_iff.mp q2).1⟩
 ·intro τ G1 h_;apply xe4 h_;clear h_;intro v2 v3 v4 kvs h_;apply ae4 h_;clear h_;intro hdk hkl tab sb
  rw[jK6] at tab
  wp_walk using 1,jJv,iSeq
  refine⟨Nat.zero_le _,fun w hw=> ?_⟩
  have hdw:=jJe hdk hw
  have hhw:=jJe (sb _ _ hh) hw
  refine⟨rs.map T.ref,by simp only[seqT,jJn hhw,sb _ _ hh,asL],?_⟩
  refine⟨fun i τ G'=>∃(v6:Option T),τ=[some (.ref h),some (.ref d),v2,v3,v4,some (.ref w),v6,none,none]/\G' w=some (.lst ((Hs.take i).map fun hs=>encR (hs.map (oth Hs))))/\Sub G1 G',?_,?_,?_,?_⟩
  ·exact⟨none,rfl,by simp[jJh],.new hw⟩
  ·intro i τ G' hi h_;apply xe1 h_;clear h_;intro v6 h_;apply ae2 h_;clear h_;intro h1 h2
   simp only[seqT,h2 _ _ (sb _ _ hh),asL]
  ·intro i x τ G2 hx0 h_;apply xe1 h_;clear h_;intro v6 h_;apply ae2 h_;clear h_;intro h1 h2
   obtain⟨ra,hx,rfl⟩:=jJ3 hx0
   obtain⟨hs',hH,hG⟩:=hrow i ra hx
   have hG2:=h2 _ _ (sb _ _ hG)
   have hrow1000:=ok.row i hs' hH
   wp_walk using 1,iSeq,jKo h1
   refine⟨hs'.map encE,jJk hG2,?_⟩
   refine jKl (fun e=>encE (oth Hs e)) (by omega) (fun G' s=>jJk (s _ _ hG2)) ?_ ?_
   ·intro j e he G' K K0 s hk
    obtain⟨t,sd⟩:=e
    have hen:=jQ1 hH he
    obtain⟨hsd,r',i',e2⟩:=ok.part _ _ _ _ hen
    have hv:=kY5 (e:=(t,sd)) e2
    have hr':(oth Hs (t,sd)).1<List.length Hs:=by obtain⟨es,q1,q2⟩:=jJ5 hv;exact (List.getElem?_eq_some_iff.mp q1).1
    have ht:=tab _ _ _ hv hr'
    have hd3:=s _ _ (h2 _ _ hdk)
    wp_walk using 1,encE
    refine⟨by omega,fun p hp=> ?_⟩
    have hdp:=jJe hd3 hp
    have hsw:L2.atI [T.int 1,T.int 0,T.int 2] (sd:Int)=some (.int (sw sd:Int)):=by
     have:sd=0\/sd=1\/sd=2:=by omega
     rcases this with rfl | rfl | rfl<;>rw[atN]<;>rfl
    refine⟨_,hsw,by omega,_,qJi (ks:=[.inl (.inl (t:Int)),.inl (.inl (sw sd:Int))]) (by rw[jJn hdp];exact hd3) jXx ht,hk _ (.new hp)⟩
   ·intro D G3 hD h3 h4
    wp_walk using 1,jJk h3,h4 _ _ h1
    refine⟨by simp;omega,?_,((h2.trans h4).over hw)⟩
    rw[List.take_succ,hH];simp[encR]
  ·intro τ G' h_;apply xe1 h_;clear h_;intro v6 h_;apply ae2 h_;clear h_;intro h1 h2
   wp_walk using 1,jJk h1
   have e1:(Hs.take (rs.map T.ref).length).map (fun hs=>encR (hs.map (oth Hs)))=(Hs.map (List.map (oth Hs))).map encR:=by
    rw[hrl,List.take_length,List.map_map];rfl
   rw[e1]
   exact kk G' _ (sb.trans h2) (kQf ok)
theorem BoxAt.mono {G:Gp} {b:Addr} {n m:Nat} (h:BoxAt G b n) (hm:n<=m):BoxAt G b m:=by
 obtain⟨x,y,z,h1,h2,h3,h4,h5,h6⟩:=h
 exact⟨x,y,z,h1,h2,h3,h4,h5,by omega⟩
theorem BoxAt.some {G:Gp} {b:Addr} {n:Nat} (h:BoxAt G b n):∃o,G b=some o:=by
 obtain⟨x,y,z,h1,_⟩:=h
 exact⟨_,h1⟩
theorem BoxAt.sub {G G':Gp} {b:Addr} {n:Nat} (h:BoxAt G b n) (s:Sub G G'):BoxAt G' b n:=by
 obtain⟨x,y,z,h1,h2,h3,h4,h5,h6⟩:=h
 exact⟨x,y,z,s _ _ h1,h2,h3,h4,h5,h6⟩
theorem BoxAt.gup {G:Gp} {b p:Addr} {n:Nat} {o:GO} (h:BoxAt G b n) (hp:b≠p):BoxAt (gup G p o) b n:=by
 obtain⟨x,y,z,h1,h2,h3,h4,h5,h6⟩:=h
 exact⟨x,y,z,by rw[jJn hp];exact h1,h2,h3,h4,h5,h6⟩
theorem Keep.sub {b:Addr} {G G':Gp} (h:Sub G G'):Keep b G G':=fun c o _ e=>h c o e
theorem Keep.over {b p:Addr} {G G':Gp} {o:GO} (h:Keep b G G') (hp:G p=none):Keep b G (L3.gup G' p o):=fun c u hc e=>by rw[jJn];exact h c u hc e;rintro rfl;rw[hp] at e;cases e
theorem RowsAt.keep {b:Addr} {G G':Gp} {h:Addr} {Hs:Web} {rs:List Addr} (s:Keep b G G') (hb:b∉h::rs) (x:RowsAt G h Hs rs):RowsAt G' h Hs rs:=by
 simp only[List.mem_cons,not_or] at hb
 exact⟨s _ _ (Ne.symm hb.1) x.1,x.2.1,fun i r e=>let ⟨hs,h1,h2⟩:=x.2.2 i r e;⟨hs,h1,s _ _ (by rintro rfl;exact hb.2 (List.mem_of_getElem? e)) h2⟩⟩
theorem RowsAt.set {G:Gp} {h:Addr} {Hs:Web} {rs:List Addr} {r:Nat} {a:Addr} {hs':List (Nat×Nat)} (x:RowsAt G h Hs rs) (hn:(h::rs).Nodup) (hr:rs[r]? =some a):RowsAt (gup G a (.lst (hs'.map encE))) h (Hs.set r hs') rs:=by
 rw[List.nodup_cons] at hn
 have hrl:r<rs.length:=(List.getElem?_eq_some_iff.mp hr).1
 refine⟨by rw[jJn];exact x.1;rintro rfl;exact hn.1 (List.mem_of_getElem? hr),by rw[List.length_set];exact x.2.1,fun i c e=> ?_⟩
 by_cases hi:i=r
 ·subst hi
  rw[hr] at e;cases e
  exact⟨hs',by rw[List.getElem?_set_self];rw[<-x.2.1];exact hrl,jJh⟩
 ·obtain⟨hs,h1,h2⟩:=x.2.2 i c e
  refine⟨hs,by rw[List.getElem?_set_ne (Ne.symm hi)];exact h1,?_⟩
  rw[jJn];exact h2
  rintro rfl
  have hil:i<rs.length:=(List.getElem?_eq_some_iff.mp e).1
  exact hi ((List.getElem?_inj hil hn.2).mp (e.trans hr.symm))
def hv (n t:Nat) (p:Nat×Nat):List (Nat×Nat×Nat):=if p.2=n then [(p.1,t,2)] else [(p.1,t,0),(p.2,t,1)]
def hvs (P:List (Nat×Nat)) (n k:Nat):List (Nat×Nat×Nat):=(List.range k).flatMap fun t=>match P[t]? with
 | some p=>hv n t p
 | none=>[]
theorem jQl {P:List (Nat×Nat)} {n k:Nat} {p:Nat×Nat} (h:P[k]? =some p):hvs P n (k+1)=hvs P n k++hv n k p:=by
 unfold hvs
 rw[List.range_succ,List.flatMap_append]
 simp[h]
theorem jX0 {n t:Nat} {p:Nat×Nat} {r t' s:Nat} (h:(r,t',s)∈hv n t p):t'=t/\s<=2/\((p.2=n/\s=2/\r=p.1)\/(p.2≠n/\s=0/\r=p.1)\/(p.2≠n/\s=1/\r=p.2)):=by
 unfold hv at h
 split at h
 ·rename_i hp;simp at h;obtain⟨rfl,rfl,rfl⟩:=h;exact⟨rfl,by omega,.inl ⟨hp,rfl,rfl⟩⟩
 ·rename_i hp;simp at h
  rcases h with ⟨rfl,rfl,rfl⟩ | ⟨rfl,rfl,rfl⟩
  ·exact⟨rfl,by omega,.inr (.inl ⟨hp,rfl,rfl⟩)⟩
  ·exact⟨rfl,by omega,.inr (.inr ⟨hp,rfl,rfl⟩)⟩
theorem jXb {P:List (Nat×Nat)} {n k:Nat} {r t s:Nat} (h:(r,t,s)∈hvs P n k):∃p,P[t]? =some p/\t<k/\(r,t,s)∈hv n t p:=by
 unfold hvs at h
 rw[List.mem_flatMap] at h
 obtain⟨t',h1,h2⟩:=h
 cases e:P[t']? with
 | none=>rw[e] at h2;cases h2
 | some p=>
  rw[e] at h2
  have h2:(r,t,s)∈hv n t' p:=h2
  have ht:=(jX0 h2).1
  subst ht
  exact⟨p,e,List.mem_range.mp h1,h2⟩
theorem kKi {P:List (Nat×Nat)} {n k:Nat} {r t s:Nat} {p:Nat×Nat} (h:P[t]? =some p) (hk:t<k) (hm:(r,t,s)∈hv n t p):(r,t,s)∈hvs P n k:=by
 unfold hvs
 rw[List.mem_flatMap]
 exact⟨t,List.mem_range.mpr hk,by rw[h];exact hm⟩
theorem jXa {P:List (Nat×Nat)} {n:Nat}:∀k,((hvs P n k).map fun x=>x.2).Nodup
 | 0=>by simp[hvs]
 | k+1=>by
  cases e:P[k]? with
  | none=>
   have:hvs P n (k+1)=hvs P n k:=by unfold hvs;rw[List.range_succ,List.flatMap_append];simp[e]
   rw[this];exact jXa k
  | some p=>
   rw[jQl e,List.map_append,List.nodup_append]
   refine⟨jXa k,by unfold hv;split<;>simp,?_⟩
   intro a ha b hb
   obtain⟨⟨r,t,s⟩,h1,rfl⟩:=List.mem_map.mp ha
   obtain⟨⟨r',t',s'⟩,h2,rfl⟩:=List.mem_map.mp hb
   obtain⟨_,_,h3,_⟩:=jXb h1
   have h4:=(jX0 h2).1
   intro z
   have:t=t':=congrArg Prod.fst z
   omega
theorem jYp {P:List (Nat×Nat)} {n:Nat}:∀k,(hvs P n k).length<=2*k
 | 0=>by simp[hvs]
 | k+1=>by
  have ih:=jYp (P:=P) (n:=n) k
  cases e:P[k]? with
  | none=>
   have:hvs P n (k+1)=hvs P n k:=by unfold hvs;rw[List.range_succ,List.flatMap_append];simp[e]
   rw[this];omega
  | some p=>
   rw[jQl e,List.length_append]
   have:(hv n k p).length<=2:=by unfold hv;split<;>simp
   omega
structure HalfL (L:List (Nat×Nat×Nat)) (n:Nat) (Hs:Web):Prop where
 len:Hs.length=n
 perm:∀(r:Nat) (hs:List (Nat×Nat)),Hs[r]? =some hs->hs.Perm ((L.filter fun x=>x.1 == r).map fun x=>x.2)
theorem ins_perm {α:Type} {xs:List α} {k:Nat} {y:α}:(xs.take k++y::xs.drop k).Perm (xs++[y]):=by
 have h1:(xs.take k++y::xs.drop k).Perm (y::(xs.take k++xs.drop k)):=List.perm_middle
 rw[List.take_append_drop] at h1
 exact h1.trans (List.perm_append_comm (l₁:=[y]) (l₂:=xs))
theorem HalfL.ins {L:List (Nat×Nat×Nat)} {n:Nat} {Hs:Web} {r k:Nat} {hs:List (Nat×Nat)} {e:Nat×Nat} (h:HalfL L n Hs) (hr:Hs[r]? =some hs):HalfL (L++[(r,e)]) n (Hs.set r (hs.take k++e::hs.drop k)) where
 len:=by rw[List.length_set];exact h.len
 perm:=fun r' hs' h'=>by
  have hrl:r<Hs.length:=(List.getElem?_eq_some_iff.mp hr).1
  rw[List.filter_append,List.map_append]
  by_cases hi:r'=r
  ·subst hi
   rw[List.getElem?_set_self hrl] at h'
   cases h'
   have:=h.perm r' hs hr
   refine ins_perm.trans ?_
   simp
   exact this.append_right [e]
  ·rw[List.getElem?_set_ne (Ne.symm hi)] at h'
   have:=h.perm r' hs' h'
   have hne:¬ r=r':=fun z=>hi z.symm
   simp[hne]
   exact this
theorem HalfL.mem {L:List (Nat×Nat×Nat)} {n:Nat} {Hs:Web} {r i:Nat} {e:Nat×Nat} (h:HalfL L n Hs) (he:en Hs r i=some e):(r,e)∈L:=by
 obtain⟨es,h1,h2⟩:=jJ5 he
 have:=(h.perm r es h1).mem_iff.mp (List.mem_of_getElem? h2)
 obtain⟨⟨r',e'⟩,h3,rfl⟩:=List.mem_map.mp this
 obtain⟨h4,h5⟩:=List.mem_filter.mp h3
 have:r'=r:=by simpa using h5
 subst this;exact h4
theorem HalfL.of {L:List (Nat×Nat×Nat)} {n:Nat} {Hs:Web} {r:Nat} {e:Nat×Nat} (h:HalfL L n Hs) (hr:r<n) (he:(r,e)∈L):∃i,en Hs r i=some e:=by
 have hrl:r<Hs.length:=by rw[h.len];exact hr
 have h1:Hs[r]? =some Hs[r]:=List.getElem?_eq_getElem hrl
 have:e∈Hs[r]:=(h.perm r _ h1).mem_iff.mpr (List.mem_map.mpr ⟨(r,e),List.mem_filter.mpr ⟨he,by simp⟩,rfl⟩)
 obtain⟨i,hi⟩:=List.getElem?_of_mem this
 exact⟨i,jQ1 h1 hi⟩
def jYy (P:List (Nat×Nat)) (n:Nat):Prop:=∀p,p∈P->p.1<n/\p.2<=n
theorem HalfL.ok {P:List (Nat×Nat)} {n:Nat} {Hs:Web} (h:HalfL (hvs P n P.length) n Hs) (hp:jYy P n) (hn:n<=1000) (hl:P.length<=500):JoinOk Hs where
 len:=by rw[h.len];exact hn
 row:=fun r hs hr=>by
  rw[(h.perm r hs hr).length_eq,List.length_map]
  have h1:=List.length_filter_le (fun x:Nat×Nat×Nat=>x.1 == r) (hvs P n P.length)
  have h2:=jYp (P:=P) (n:=n) P.length
  omega
 inj:=fun r i r' i' e h1 h2=>by
  obtain⟨t,s⟩:=e
  obtain⟨p,q1,q2,q3⟩:=jXb (h.mem h1)
  obtain⟨p',q1',q2',q3'⟩:=jXb (h.mem h2)
  rw[q1] at q1';cases q1'
  have m1:=(jX0 q3).2.2
  have m2:=(jX0 q3').2.2
  have hrr:r=r':=by
   rcases m1 with ⟨a,b,c⟩ | ⟨a,b,c⟩ | ⟨a,b,c⟩<;>rcases m2 with ⟨a',b',c'⟩ | ⟨a',b',c'⟩ | ⟨a',b',c'⟩<;>omega
  subst hrr
  refine⟨rfl,?_⟩
  obtain⟨es,z1,z2⟩:=jJ5 h1
  obtain⟨es',z3,z4⟩:=jJ5 h2
  rw[z1] at z3;cases z3
  have nd:es.Nodup:=by
   rw[(h.perm r es z1).nodup_iff]
   exact (List.filter_sublist.map _).nodup (jXa _)
  exact (List.getElem?_inj (List.getElem?_eq_some_iff.mp z2).1 nd).mp (z2.trans z4.symm)
 part:=fun r i t s h1=>by
  obtain⟨p,q1,q2,q3⟩:=jXb (h.mem h1)
  obtain⟨_,h2,m⟩:=jX0 q3
  refine⟨h2,?_⟩
  have hpp:=hp p (List.mem_of_getElem? q1)
  rcases m with ⟨a,rfl,c⟩ | ⟨a,rfl,c⟩ | ⟨a,rfl,c⟩
  ·exact⟨r,i,h1⟩
  ·obtain⟨i',h3⟩:=h.of (r:=p.2) (e:=(t,1)) (by omega) (kKi q1 q2 (by unfold hv;rw[if_neg a];simp))
   exact⟨p.2,i',h3⟩
  ·obtain⟨i',h3⟩:=h.of (r:=p.1) (e:=(t,0)) (by omega) (kKi q1 q2 (by unfold hv;rw[if_neg a];simp))
   exact⟨p.1,i',h3⟩
structure Made (P:List (Nat×Nat)) (n:Nat) (W:Web):Prop where
 len:W.length=n
 sym:Sym W
 deg:∀(r:Nat) (es:List (Nat×Nat)),W[r]? =some es->es.length=((hvs P n P.length).filter fun x=>x.1 == r).length
 tie:∀p,p∈P->p.2<n->∃i j,en W p.1 i=some (p.2,j)
theorem qJa {P:List (Nat×Nat)} {n:Nat} {Hs W:Web} (h:HalfL (hvs P n P.length) n Hs) (hp:jYy P n) (ok:JoinOk Hs) (J:Joined Hs W):Made P n W where
 len:=by rw[J.len,h.len]
 sym:=J.sym ok
 deg:=fun r es hr=>by
  have hrl:r<Hs.length:=by rw[<-J.len];exact (List.getElem?_eq_some_iff.mp hr).1
  obtain⟨es',h1,h2⟩:=J.row r _ (List.getElem?_eq_getElem hrl)
  rw[hr] at h1;cases h1
  rw[h2,(h.perm r _ (List.getElem?_eq_getElem hrl)).length_eq,List.length_map]
 tie:=fun p hpm hpn=>by
  obtain⟨t,ht⟩:=List.getElem?_of_mem hpm
  have htl:t<P.length:=(List.getElem?_eq_some_iff.mp ht).1
  have hne:¬ p.2=n:=by omega
  obtain⟨i,h1⟩:=h.of (r:=p.1) (e:=(t,0)) (hp p hpm).1 (kKi ht htl (by unfold hv;rw[if_neg hne];simp))
  obtain⟨j,h2⟩:=h.of (r:=p.2) (e:=(t,1)) hpn (kKi ht htl (by unfold hv;rw[if_neg hne];simp))
  exact⟨i,j,J.to _ _ _ _ _ _ h1 h2⟩
theorem Keep.none {b p:Addr} {G G':Gp} (h:Keep b G G') (hb:p≠b) (hp:G' p=none):G p=none:=by
 cases e:G p with
 | none=>rfl
 | some o=>rw[h p o hb e] at hp;cases hp
theorem kX5 {xs:List (Nat×Nat)} {k:Nat} {y:Nat×Nat}:insT (xs.map encE) k (encE y)=(xs.take k++y::xs.drop k).map encE:=by simp[insT,List.map_take,List.map_drop]
theorem HalfL.len_le {L:List (Nat×Nat×Nat)} {n:Nat} {Hs:Web} {r:Nat} {hs:List (Nat×Nat)} (h:HalfL L n Hs) (hr:Hs[r]? =some hs):hs.length<=L.length:=by
 rw[(h.perm r hs hr).length_eq,List.length_map];exact List.length_filter_le _ _
theorem jXg {E:Ends3} {G G2:Gp} {b D p:Addr} {rs:List Addr} {n k m':Nat} {S:List (Nat×Nat)} {L:List (Nat×Nat×Nat)} {Hs:Web} {w1 w2 w5 w6 w8 w9:Option T}
  (h1:HalfL L n Hs) (h2:RowsAt G2 D Hs rs) (h3:BoxAt G2 b m') (h4:Keep b G G2) (hnd:(D::rs).Nodup) (hbn:b∉D::rs) (hfr:∀r,r∈D::rs->G r=none) (hp:G2 p=some (.lst (S.map encE))) (hpn:p∉D::rs) (hpb:p≠b) (hS:∀x,x∈S->x.1<n) (hm:m'+S.length<2^40) (hL:L.length+S.length<10000)
  (kk:∀G' Hs' v8 v9,HalfL (L++S.map fun x=>(x.1,k,x.2)) n Hs'->RowsAt G' D Hs' rs->BoxAt G' b (m'+S.length)->Keep b G G'->E.nx [some (.ref b),w1,w2,some (.ref D),some (.int k),w5,w6,some (.ref p),v8,v9] G'):
  qJ8 (gTup 2 (jJx (jJg 8) (jJx (jJg 9) gNil))) (jUk (tBM "list" jV3 (tOp rIxF (tVar 3) (tVar 8)) (jJc (jJw jJq (jJc (tVar 0) (jJc (tOp jJz (tCB rLen (jJc (tOp rIxF (tVar 3) (tVar 8)) tNil)) (tC (T.int 1))) tNil))) (jJc (tTup (jJc (tVar 4) (jJc (tVar 9) tNil))) tNil)))) E
   [some (.ref b),w1,w2,some (.ref D),some (.int k),w5,w6,some (.ref p),w8,w9] (S.map encE) (fun G'=>seqT G' (.ref p)=some (S.map encE)) G2:=by
 have hs:=sz
 refine⟨fun j τ G'=>∃(v8 v9:Option T) (Hs:Web),τ=[some (.ref b),w1,w2,some (.ref D),some (.int k),w5,w6,some (.ref p),v8,v9]/\HalfL (L++(S.take j).map fun x=>(x.1,k,x.2)) n Hs/\RowsAt G' D Hs rs/\BoxAt G' b (m'+j)/\Keep b G G'/\G' p=some (.lst (S.map encE)),?_,?_,?_,?_⟩
 ·exact⟨w8,w9,Hs,rfl,by simpa using h1,h2,h3,h4,hp⟩
 ·intro j τ G' hj h_;apply xe3 h_;clear h_;intro v8 v9 Hs h_;apply ae5 h_;clear h_;intro i1 i2 i3 i4 i5
  exact jJk i5
 ·intro j x τ G' hx0 h_;apply xe3 h_;clear h_;intro v8 v9 Hs h_;apply ae5 h_;clear h_;intro i1 i2 i3 i4 i5
  obtain⟨⟨r,s⟩,hx,rfl⟩:=jJ3 hx0
  have hj:j<S.length:=(List.getElem?_eq_some_iff.mp hx).1
  have hr:r<n:=hS _ (List.mem_of_getElem? hx)
  have hrl:r<rs.length:=by rw[i2.2.1,i1.len];exact hr
  have hra:rs[r]? =some rs[r]:=List.getElem?_eq_getElem hrl
  generalize rs[r]=a at hra
  obtain⟨hs',hh1,hh2⟩:=i2.2.2 r a hra
  have hat:L2.atI (rs.map T.ref) (r:Int)=some (.ref a):=by rw[atN];simp[hra]
  have hle:=i1.len_le hh1
  have hlt:(L++(S.take j).map fun x=>(x.1,k,x.2)).length<10000:=by simp;omega
  wp_walk using 1,encE,jKd i2.1,hat,jKo hh2,jJk hh2,List.length_map
  refine⟨b,_,m'+j,rfl,i3,by omega,by omega,by omega,fun c G3 c0 c1 bx kp=> ?_⟩
  have ham:a∈D::rs:=List.mem_cons_of_mem _ (List.mem_of_getElem? hra)
  have hab:a≠b:=by rintro rfl;exact hbn ham
  have hap:a≠p:=by rintro rfl;exact hpn ham
  have i2':=i2.keep kp hbn
  refine⟨by omega,hs'.map encE,c,rfl,kp _ _ hab hh2,c0,by simp;omega,by simp;omega,?_⟩
  rw[show T.tup [T.int (k:Int),T.int (s:Int)]=encE (k,s) from rfl,kX5]
  refine⟨Hs.set r (hs'.take c.toNat++(k,s)::hs'.drop c.toNat),?_,i2'.set hnd hra,?_,(i4.trans kp).over (hfr a ham),?_⟩
  ·have:=i1.ins (k:=c.toNat) (e:=(k,s)) hh1
   rw[List.take_succ,hx,List.map_append,<-List.append_assoc]
   exact this
  ·exact bx.gup hab.symm
  ·rw[jJn hap.symm];exact kp _ _ hpb i5
 ·intro τ G' h_;apply xe3 h_;clear h_;intro v8 v9 Hs h_;apply ae5 h_;clear h_;intro i1 i2 i3 i4 i5
  rw[List.length_map] at i1 i3
  rw[List.take_length] at i1
  exact kk G' Hs v8 v9 i1 i2 i3 i4
theorem jQ7 {xs:List T}:(numT xs).length=xs.length:=by simp[numT]
noncomputable def jQb:Sp3:=fun xs G Q=>∃(b pr:Addr) (P:List (Nat×Nat)) (n m:Nat),xs=[.ref b,.ref pr,.int n]/\BoxAt G b m/\m+2*P.length<2^40/\pr≠b/\G pr=some (.lst (P.map encE))/\jYy P n/\n<=1000/\P.length<=500/\∀W G',Made P n W->BoxAt G' b (m+2*P.length)->Keep b G G'->Q (encW W) G'
def jYz:List Str:=["_law_box_here","_law_pairs","_law_many","_law_halves","_law_tie","_law_one","_law_other","_law_sides","_law_room","_law_side"]
noncomputable def jQc:TS3:=
 (tSeq (tAsg (jKq [false,false,false,false,false,false,false,false,true,false] (jKb (jJc (tVar 2) tNil)) (jJg 8) jK2 (tLst tNil)) (jJg 3))
 (tSeq (tFor (kJs (jJc (tVar 1) tNil)) (gTup 2 (jJx (jJg 4) (jJx (gTup 2 (jJx (jJg 5) (jJx (jJg 6) gNil))) gNil))) (tSeq (tAsg (tIf (jKa (tOp rEqA (tVar 6) (tVar 2))) (tLst (jJc (tTup (jJc (tVar 5) (jJc (tC (.int 2)) tNil))) tNil)) (tLst (jJc (tTup (jJc (tVar 5) (jJc (tC (.int 0)) tNil))) (jJc (tTup (jJc (tVar 6) (jJc (tC (.int 1)) tNil))) tNil)))) (jJg 7))
 (tFor (iSeq (tVar 7)) (gTup 2 (jJx (jJg 8) (jJx (jJg 9) gNil))) (jUk (tBM "list" jV3 (tOp rIxF (tVar 3) (tVar 8)) (jJc (jJw jJq (jJc (tVar 0) (jJc (tOp jJz (tCB rLen (jJc (tOp rIxF (tVar 3) (tVar 8)) tNil)) (tC (.int 1))) tNil))) (jJc (tTup (jJc (tVar 4) (jJc (tVar 9) tNil))) tNil)))))))
 (tRet (jJw jUf (jJc (tVar 3) tNil)))))
theorem jKj {n:Nat}:rngT 0 n=(List.range n).map fun (k:Nat)=>T.int k:=by simp[rngT]
theorem jVc:RdOk jQb jQc jYz:=by
 intro xs G Q h_;apply xe5 h_;clear h_;intro b pr P n m h_;apply ae8 h_;clear h_;intro hb hm hpb hpr hP hn hPl kk
 show jQc _ [some (.ref b),some (.ref pr),some (.int n),none,none,none,none,none,none,none] G
 have hs:=sz
 wp_walk using 1,jQc,jJv,jKb,kJs
 refine⟨by omega,by omega,?_⟩
 rw[show ((n:Int)).toNat=n by omega,jKj]
 refine jU8 (fun _=>[]) (by simp;omega) (fun _ _=>trivial) ?_ ?_
 ·intro i e he G' K K0 s hk
  wp_walk using 1,tSeq
  exact⟨Nat.zero_le _,fun p hp=>hk p _ hp jJh (.new hp)⟩
 ·intro D rs G1 hD hD1 s1 hrl hnd hrs
  rw[List.length_range] at hrl
  obtain⟨bo,hbo⟩:=hb.some
  have hbn:b∉D::rs:=by
   intro z
   rw[List.mem_cons] at z
   rcases z with rfl | z
   ·rw[hD] at hbo;cases hbo
   ·obtain⟨j,hj⟩:=List.getElem?_of_mem z
    have hjl:j<rs.length:=(List.getElem?_eq_some_iff.mp hj).1
    have:=(hrs j b j hj (by rw[List.getElem?_range (by omega)])).1
    rw[this] at hbo;cases hbo
  have hfr:∀r,r∈D::rs->G r=none:=by
   intro r z
   rw[List.mem_cons] at z
   rcases z with rfl | z
   ·exact hD
   ·obtain⟨j,hj⟩:=List.getElem?_of_mem z
    have hjl:j<rs.length:=(List.getElem?_eq_some_iff.mp hj).1
    exact (hrs j r j hj (by rw[List.getElem?_range (by omega)])).1
  refine⟨P.map encE,by simp only[jK0,s1 _ _ hpr,asL],?_⟩
  refine⟨fun k τ G'=>∃(v4 v5 v6 v7 v8 v9:Option T) (Hs:Web),τ=[some (.ref b),some (.ref pr),some (.int n),some (.ref D),v4,v5,v6,v7,v8,v9]/\HalfL (hvs P n k) n Hs/\RowsAt G' D Hs rs/\BoxAt G' b (m+2*k)/\Keep b G G',?_,?_,?_,?_⟩
  ·refine⟨none,none,none,none,none,none,List.replicate n [],rfl,⟨by simp,?_⟩,⟨hD1,by simp[hrl],?_⟩,hb.sub s1,.sub s1⟩
   ·intro r hs' h
    have:hs'=[]:=by rw[List.getElem?_replicate] at h;split at h;cases h;rfl;cases h
    subst this;simp[hvs]
   ·intro i r h
    have hi:i<n:=by rw[<-hrl];exact (List.getElem?_eq_some_iff.mp h).1
    exact⟨[],by simp[hi],(hrs i r i h (by simp[hi])).2⟩
  ·intro k τ G' hk h_;apply xe7 h_;clear h_;intro v4 v5 v6 v7 v8 v9 Hs h_;apply ae4 h_;clear h_;intro h1 h2 h3 h4
   simp only[jK0,h4 _ _ hpb hpr,asL]
  ·intro k x τ G2 hx h_;apply xe7 h_;clear h_;intro v4 v5 v6 v7 v8 v9 Hs h_;apply ae4 h_;clear h_;intro h1 h2 h3 h4
   have hk:k<P.length:=by have:=(List.getElem?_eq_some_iff.mp hx).1;simpa[jQ7] using this
   rw[jQ8 (x:=encE P[k]) (by simp[hk])] at hx
   cases hx
   generalize hpk:P[k]=p
   have hpe:P[k]? =some p:=by rw[List.getElem?_eq_getElem hk,hpk]
   obtain⟨a,c⟩:=p
   obtain⟨ha,hc⟩:=hP _ (List.mem_of_getElem? hpe)
   have ha:a<n:=ha
   have hc:c<=n:=hc
   wp_walk using 1,encE,rEqA,iSeq,jJv
   rw[show eqG G2 (T.int (c:Int)) (T.int (n:Int))=some (decide ((c:Int)=n)) from rfl]
   have hL:=jYp (P:=P) (n:=n) k
   refine⟨_,rfl,?_⟩
   have fresh:∀p,G2 p=none->p∉D::rs/\p≠b:=by
    intro p hp
    refine⟨fun z=> ?_,?_⟩
    ·rw[List.mem_cons] at z
     rcases z with rfl | z
     ·rw[h2.1] at hp;cases hp
     ·obtain⟨j,hj⟩:=List.getElem?_of_mem z
      obtain⟨_,_,q⟩:=h2.2.2 j p hj
      rw[q] at hp;cases hp
    ·rintro rfl
     obtain⟨o,ho⟩:=h3.some
     rw[ho] at hp;cases hp
   by_cases hcn:c=n
   ·rw[if_pos (by simp[hcn])]
    refine⟨by omega,by omega,fun p hp=> ?_⟩
    obtain⟨f1,f2⟩:=fresh p hp
    refine jXg (S:=[(a,2)]) h1 (h2.sub (.new hp)) (h3.gup f2.symm) (h4.over (h4.none f2 hp)) hnd hbn hfr jJh f1 f2 (by simp[ha]) (by simp;omega) (by simp;omega) ?_
    intro G' Hs' v8 v9 i1 i2 i3 i4
    refine⟨_,_,_,_,_,_,rfl,Hs',?_,i2,i3.mono (by simp;omega),i4⟩
    rw[jQl hpe];unfold hv;rw[if_pos hcn];exact i1
   ·rw[if_neg (by simp;omega)]
    refine⟨by omega,by omega,by omega,fun p hp=> ?_⟩
    obtain⟨f1,f2⟩:=fresh p hp
    refine jXg (S:=[(a,0),(c,1)]) h1 (h2.sub (.new hp)) (h3.gup f2.symm) (h4.over (h4.none f2 hp)) hnd hbn hfr jJh f1 f2 (by simp;omega) (by simp;omega) (by simp;omega) ?_
    intro G' Hs' v8 v9 i1 i2 i3 i4
    refine⟨_,_,_,_,_,_,rfl,Hs',?_,i2,i3.mono (by simp;omega),i4⟩
    rw[jQl hpe];unfold hv;rw[if_neg hcn];exact i1
  ·intro τ G' h_;apply xe7 h_;clear h_;intro v4 v5 v6 v7 v8 v9 Hs h_;apply ae4 h_;clear h_;intro h1 h2 h3 h4
   rw[jQ7,List.length_map] at h1 h3
   wp_walk using 1,tSeq
   have ok:=h1.ok hP hn hPl
   refine⟨D,Hs,rs,rfl,h2,ok,fun G3 W s3 J=> ?_⟩
   exact kk W G3 (qJa h1 hP ok J) (h3.sub s3) (h4.trans (.sub s3))
def dgr (P:List (Nat×Nat)) (n r:Nat):Nat:=((hvs P n P.length).filter fun x=>x.1 == r).length
def jKn (n:Nat) (p:Nat×Nat):List Nat:=if p.2=n then [p.1] else [p.1,p.2]
theorem kU1 {P Q:List (Nat×Nat)} {n:Nat}:∀k,k<=P.length->hvs (P++Q) n k=hvs P n k
 | 0,_=>rfl
 | k+1,h=>by
  have e:P[k]? =some P[k]:=List.getElem?_eq_getElem (by omega)
  rw[jQl e,jQl (p:=P[k]) (by rw[List.getElem?_append_left (by omega)];exact e),kU1 k (by omega)]
theorem kYb {P:List (Nat×Nat)} {n:Nat} {p:Nat×Nat}:hvs (P++[p]) n (P++[p]).length=hvs P n P.length++hv n P.length p:=by
 rw[List.length_append,List.length_singleton,jQl (p:=p) (by simp),kU1 _ (Nat.le_refl _)]
theorem hv_cnt {n t r:Nat} {p:Nat×Nat}:((hv n t p).filter fun x=>x.1 == r).length=(jKn n p).count r:=by
 unfold hv jKn
 split
 ·by_cases h:p.1=r<;>simp[h]
 ·by_cases h:p.1=r<;>by_cases h':p.2=r<;>simp[h,h',List.filter_cons]
theorem jVp {P:List (Nat×Nat)} {n r:Nat} {p:Nat×Nat}:dgr (P++[p]) n r=dgr P n r+(jKn n p).count r:=by
 unfold dgr
 rw[kYb,List.filter_append,List.length_append,hv_cnt]
theorem kYe {L:List (Nat×Nat×Nat)} {k:Nat}:(L.filter fun x=>decide (x.1<k+1)).length=(L.filter fun x=>decide (x.1<k)).length+(L.filter fun x=>x.1 == k).length:=by
 induction L with
 | nil=>rfl
 | cons a as ih=>
  rw[List.filter_cons,List.filter_cons,List.filter_cons]
  rcases Nat.lt_trichotomy a.1 k with h | h | h
  ·have h1:a.1<k+1:=by omega
   have h2:¬ a.1=k:=by omega
   simp[h,h1,h2,ih];omega
  ·have h1:a.1<k+1:=by omega
   simp[h,ih];omega
  ·have h1:¬ a.1<k+1:=by omega
   have h2:¬ a.1=k:=by omega
   have h3:¬ a.1<k:=by omega
   simp[h1,h2,h3,ih]
theorem kY4 {L:List (Nat×Nat×Nat)} {d:Nat}:∀k,(∀r,r<k->d<=(L.filter fun x=>x.1 == r).length)->k*d<=(L.filter fun x=>decide (x.1<k)).length
 | 0,_=>by simp
 | k+1,h=>by
  rw[kYe,Nat.succ_mul]
  have h1:=kY4 k fun r hr=>h r (by omega)
  have h2:=h k (by omega)
  omega
theorem kU5 {P:List (Nat×Nat)} {n d k:Nat} (hd:2<=d) (hk:P.length<k):∃r,r<k/\dgr P n r<d:=by
 apply Classical.byContradiction
 intro h
 have h1:∀r,r<k->d<=((hvs P n P.length).filter fun x=>x.1 == r).length:=fun r hr=>by
  rcases Nat.lt_or_ge (dgr P n r) d with z | z
  ·exact absurd ⟨r,hr,z⟩ h
  ·exact z
 have h2:=kY4 k h1
 have h3:=List.length_filter_le (fun x:Nat×Nat×Nat=>decide (x.1<k)) (hvs P n P.length)
 have h4:=jYp (P:=P) (n:=n) P.length
 have h5:k*2<=k*d:=Nat.mul_le_mul_left k hd
 omega
theorem kYm {P:List (Nat×Nat)} {n k r:Nat} (h:∀p,p∈P->p.1<k/\p.2<k) (hr:k<=r):dgr P n r=0:=by
 unfold dgr
 rw[List.length_eq_zero_iff,List.filter_eq_nil_iff]
 rintro⟨a,t,s⟩ hx
 obtain⟨p,h1,h2,h3⟩:=jXb hx
 have h4:=h p (List.mem_of_getElem? h1)
 have h5:=(jX0 h3).2.2
 simp
 omega
def jKy (n:Nat) (f:Nat->Nat):List T:=(List.range n).map fun r=>T.int (f r)
theorem jX6 {n:Nat} {f:Nat->Nat} {r:Nat} (h:r<n):L2.atI (jKy n f) (r:Int)=some (.int (f r)):=by rw[atN];simp[jKy,h]
theorem kQq {n:Nat} {f:Nat->Nat}:(jKy n f).length=n:=by simp[jKy]
theorem kQp {n:Nat} {f:Nat->Nat} {r v:Nat}:(jKy n f).set r (.int v)=jKy n fun x=>if x=r then v else f x:=by
 apply List.ext_getElem?
 intro i
 by_cases hi:i=r
 ·subst hi
  by_cases h:i<n
  ·rw[List.getElem?_set_self (by simpa[jKy] using h)];simp[jKy,h]
  ·rw[List.getElem?_eq_none (by simp[jKy];omega),List.getElem?_eq_none (by simp[jKy];omega)]
 ·rw[List.getElem?_set_ne (Ne.symm hi)]
  by_cases h:i<n
  ·simp[jKy,h,hi]
  ·rw[List.getElem?_eq_none (by simp[jKy];omega),List.getElem?_eq_none (by simp[jKy];omega)]
theorem bump {E:Ends3} {G2:Gp} {u:Addr} {n:Nat} {f:Nat->Nat} {es:List Nat} {stay:Gp->Prop} {w0 w1 w2 w4 w5 w6 w7 w8 w9 w10 w11:Option T} (hu:G2 u=some (.lst (jKy n f))) (hst:∀G',(∀c,c≠u->G' c=G2 c)->stay G') (hes:∀e,e∈es->e<n)
  (kk:∀G' v7,G' u=some (.lst (jKy n fun r=>f r+es.count r))->(∀c,c≠u->G' c=G2 c)->E.nx [w0,w1,w2,some (.ref u),w4,w5,w6,v7,w8,w9,w10,w11] G'):
  qJ8 (jJg 7) (tAsg (tOp jJz (tOp rIxF (tVar 3) (tVar 7)) (tC (.int 1))) (gSub (tVar 3) (tVar 7) jQk)) E [w0,w1,w2,some (.ref u),w4,w5,w6,w7,w8,w9,w10,w11] (es.map fun e=>T.int (e:Nat)) stay G2:=by
 refine⟨fun j τ G'=>∃v7,τ=[w0,w1,w2,some (.ref u),w4,w5,w6,v7,w8,w9,w10,w11]/\G' u=some (.lst (jKy n fun r=>f r+(es.take j).count r))/\(∀c,c≠u->G' c=G2 c),?_,?_,?_,?_⟩
 ·exact⟨w7,rfl,by simpa using hu,fun _ _=>rfl⟩
 ·intro j τ G' hj h_;apply xe1 h_;clear h_;intro v7 h_;apply ae2 h_;clear h_;intro h1 h2
  exact hst G' h2
 ·intro j x τ G' hx0 h_;apply xe1 h_;clear h_;intro v7 h_;apply ae2 h_;clear h_;intro h1 h2
  obtain⟨e,hx,rfl⟩:=jJ3 hx0
  have he:=hes e (List.mem_of_getElem? hx)
  have hix:L2.ixN (jKy n fun r=>f r+(es.take j).count r).length (e:Int)=some e:=jXs (by rw[kQq];exact he)
  wp_walk using 1,jKd h1,jX6 he,jQ5 h1 hix
  refine⟨?_,fun c hc=>by rw[jJn hc];exact h2 c hc⟩
  rw[show T.int (((f e+(es.take j).count e:Nat):Int)+1)=T.int ((f e+(es.take j).count e+1:Nat):Int) by simp,kQp]
  congr 1
  funext r
  rw[List.take_succ,hx,Option.toList_some,List.count_append]
  by_cases hr:r=e
  ·subst hr;simp;omega
  ·have:¬ e=r:=fun z=>hr z.symm
   simp[hr,this]
 ·intro τ G' h_;apply xe1 h_;clear h_;intro v7 h_;apply ae2 h_;clear h_;intro h1 h2
  rw[List.length_map,List.take_length] at h1
  exact kk G' v7 h1 h2
structure WebOk (n d:Nat) (W:Web):Prop where
 len:W.length=n
 sym:Sym W
 deg:∀(r:Nat) (es:List (Nat×Nat)),W[r]? =some es->es.length<=d
 low:∀r,1<=r->r<n->∃i a j,en W r i=some (a,j)/\a<r
structure POk (P:List (Nat×Nat)) (n d k:Nat):Prop where
 ok:jYy P n
 deg:∀r,r<n->dgr P n r<=d
 low:∀r,1<=r->r<k->∃p,p∈P/\p.2=r/\p.1<r
theorem POk.web {P:List (Nat×Nat)} {n d:Nat} {W:Web} (h:POk P n d n) (m:Made P n W):WebOk n d W where
 len:=m.len
 sym:=m.sym
 deg:=fun r es hr=>by
  rw[m.deg r es hr];exact h.deg r (by rw[<-m.len];exact (List.getElem?_eq_some_iff.mp hr).1)
 low:=fun r h1 h2=>by
  obtain⟨p,q1,q2,q3⟩:=h.low r h1 h2
  obtain⟨i,j,q4⟩:=m.tie p q1 (by omega)
  have:=m.sym _ _ _ _ q4
  rw[q2] at this
  exact⟨j,p.1,i,this,q3⟩
noncomputable def jVj:Sp3:=fun xs G Q=>∃(b:Addr) (n d m:Nat),xs=[.ref b,.int n,.int d]/\BoxAt G b m/\m+300<2^40/\1<=n/\n<=24/\2<=d/\d<=100/\∀W G',WebOk n d W->BoxAt G' b (m+300)->Keep b G G'->Q (encW W) G'
def qJ4:List Str:=["_law_box_here","_law_many","_law_most","_law_used","_law_pairs","_law_room","_law_free","_law_end","_law_turn_here","_law_pair","_law_ends_here","_law_one"]
noncomputable def jYg:TS3:=
 (tSeq (tAsg (tOp jQy (tLst (jJc (tC (.int 0)) tNil)) (tVar 1)) (jJg 3))
 (tSeq (tAsg (tLst tNil) (jJg 4))
 (tSeq (tFor (qJn (jJc (tC (.int 1)) (jJc (tVar 1) tNil))) (jJg 5) (tSeq (tAsg (jKq [false,false,false,false,false,false,false,false,false,false,false,true] (jKb (jJc (tVar 5) tNil)) (jJg 11) (jKa (tOp rLt (tOp rIxF (tVar 3) (tVar 11)) (tVar 2))) (tVar 11)) (jJg 6))
 (tSeq (jUk (tBM "list" jKf (tVar 4) (jJc (tTup (jJc (tOp rIxF (tVar 6) (jJw jJq (jJc (tVar 0) (jJc (tCB rLen (jJc (tVar 6) tNil)) tNil)))) (jJc (tVar 5) tNil))) tNil)))
 (tFor (iSeq (tOp rIxF (tVar 4) (tUn rNeg (tC (.int 1))))) (jJg 7) (tAsg (tOp jJz (tOp rIxF (tVar 3) (tVar 7)) (tC (.int 1))) (gSub (tVar 3) (tVar 7) jQk))))))
 (tSeq (tFor (jKb (jJc (jJw jJq (jJc (tVar 0) (jJc (tOp jJz (tVar 1) (tC (.int 2))) tNil))) tNil)) (jJg 8) (tSeq (tAsg (tTup (jJc (jJw jJq (jJc (tVar 0) (jJc (tVar 1) tNil))) (jJc (jJw jJq (jJc (tVar 0) (jJc (tOp jJz (tVar 1) (tC (.int 1))) tNil))) tNil))) (jJg 9))
 (tSeq (tAsg (jKq [false,false,false,false,false,false,false,true,false,false,false,false] (iSeq (tVar 9)) (jJg 7) (jKa (tOp rLt (tVar 7) (tVar 1))) (tVar 7)) (jJg 10))
 (tIfS (jKa (tCB rAll (jJc (jKq [false,false,false,false,false,false,false,true,false,false,false,false] (iSeq (tVar 10)) (jJg 7) jK2 (tOp rLeF (tOp jJz (tOp rIxF (tVar 3) (tVar 7)) (tBM "list" kUf (tVar 10) (jJc (tVar 7) tNil))) (tVar 2))) tNil))) (tSeq (jUk (tBM "list" jKf (tVar 4) (jJc (tVar 9) tNil)))
 (tFor (iSeq (tVar 10)) (jJg 7) (tAsg (tOp jJz (tOp rIxF (tVar 3) (tVar 7)) (tC (.int 1))) (gSub (tVar 3) (tVar 7) jQk)))) jQt))))
 (tRet (jJw jQb (jJc (tVar 0) (jJc (tVar 4) (jJc (tVar 1) tNil)))))))))
theorem kXd {n:Nat}:(List.replicate n [T.int 0]).flatten=jKy n fun _=>0:=by
 have:(List.replicate n [T.int 0]).flatten=List.replicate n (T.int 0):=by
  induction n with
  | zero=>rfl
  | succ n ih=>rw[List.replicate_succ,List.flatten_cons,ih];rfl
 rw[this]
 apply List.ext_getElem?
 intro i
 by_cases h:i<n
 ·simp[jKy,h]
 ·rw[List.getElem?_eq_none (by simp;omega),List.getElem?_eq_none (by simp[jKy];omega)]
theorem kQ6 {lo n:Nat}:rngT lo n=(List.range n).map fun (k:Nat)=>T.int ((lo+k:Nat):Int):=by simp[rngT]
theorem qJy {es:List Nat} {r:Nat}:(es.map fun e=>T.int (e:Nat)).countP (fun z=>eqT z (.int r))=es.count r:=by
 rw[List.countP_map,List.count]
 congr 1
 funext e
 simp only[eqT,Function.comp]
 by_cases h:e=r
 ·subst h;simp
 ·have h2:¬ (e:Int)=r:=by omega
  rw[beq_eq_false_iff_ne.mpr h,beq_eq_false_iff_ne.mpr h2]
theorem jZj {es:List Nat}:(es.map fun e=>T.int (e:Nat)).all jUu=true:=by
 rw[List.all_map,List.all_eq_true];intros;rfl
theorem jUw {α:Type} {f:α->Bool}:∀ {es:List α},kJ0 (es.map fun e=>T.bl (f e))=some (es.all f)
 | []=>rfl
 | e::es=>by rw[List.map_cons,kJ0,jUw,List.all_cons]
theorem kK4:RdOk jVj jYg qJ4:=by
 intro xs G Q h_;apply xe4 h_;clear h_;intro b n d m h_;apply ae7 h_;clear h_;intro hb hm hn1 hn2 hd1 hd2 kk
 show jYg _ [some (.ref b),some (.int n),some (.int d),none,none,none,none,none,none,none,none,none] G
 have hs:=sz
 wp_walk using 1,jYg,jJv,jKb,qJn
 refine⟨by omega,fun z hz=> ?_⟩
 have e1:mulR (gup G z (GO.lst [T.int 0])) (.ref z) (.int n)=some (.newL (jKy n fun _=>0)):=by
  rw[<-kXd]
  simp only[mulR,jJh];rw[if_pos];congr;refine⟨?_,?_,?_⟩<;>simp<;>omega
 wp_walk using 1,e1
 intro u hu
 obtain⟨huz,hu0⟩:=jKk hu
 refine⟨Nat.zero_le _,fun pr hpr=> ?_⟩
 obtain⟨hpu,hpr1⟩:=jKk hpr
 obtain⟨hpz,hpr0⟩:=jKk hpr1
 obtain⟨bo,hbo⟩:=hb.some
 have hbu:=jJe hbo hu0
 have hbp:=jJe hbo hpr0
 have hbz:=jJe hbo hz
 refine⟨by omega,by omega,by omega,by omega,?_⟩
 rw[show ((n:Int)-1).toNat=n-1 by omega,show rngT 1 (n-1)=rngT ((1:Nat):Int) (n-1) from rfl,kQ6]
 let J1:Nat->St3->Gp->Prop:=fun k τ G'=>∃(v5 v6 v7:Option T) (P:List (Nat×Nat)),τ=[some (.ref b),some (.int n),some (.int d),some (.ref u),some (.ref pr),v5,v6,v7,none,none,none,none]/\P.length=k/\POk P n d (k+1)/\(∀p,p∈P->p.1<k+1/\p.2<k+1)/\G' u=some (.lst (jKy n (dgr P n)))/\G' pr=some (.lst (P.map encE))/\BoxAt G' b (m+k)/\Keep b G G'
 refine⟨J1,?_,?_,?_,?_⟩
 ·refine xi4 none none none [] rfl ⟨rfl,⟨by intro p h;simp at h,fun r _=>by simp[dgr,hvs],fun r h1 h2=>by omega⟩,by intro p h;simp at h,by rw[jJn hpu.symm,jJh];rfl,jJh,((hb.gup hbz).gup hbu).gup hbp,(((Keep.new hz).over hu0).over hpr0)⟩
 ·intros;trivial
 ·intro k x τ G1 hx0 h_;apply xe4 h_;clear h_;intro v5 v6 v7 P h_;apply ae7 h_;clear h_;intro hPl hP hlt hgu hgp hbx hkp
  obtain⟨e,hx,rfl⟩:=jJ3 hx0
  obtain⟨hk,rfl⟩:k<n-1/\k=e:=by
   rw[List.getElem?_eq_some_iff] at hx;obtain⟨q1,q2⟩:=hx;simp at q1 q2;exact⟨q1,q2⟩
  wp_walk using 1,iSeq,jKb,jJv
  refine⟨by omega,by omega,?_⟩
  rw[show (((1+k:Nat)):Int).toNat=1+k by omega,jKj]
  refine jYu (fun r=>if dgr P n r<d then some (T.int (r:Nat)) else none) (by simp;omega) (fun _ _=>trivial) ?_ ?_
  ·intro i r hr G2 K K0 s2 hK hK0
   obtain⟨hr1,rfl⟩:i<1+k/\i=r:=by
    rw[List.getElem?_eq_some_iff] at hr;obtain⟨q1,q2⟩:=hr;simp at q1 q2;exact⟨q1,q2⟩
   wp_walk using 1,jKd (s2 _ _ hgu),jX6 (show i<n by omega)
   by_cases hdg:dgr P n i<d
   ·rw[if_pos (by omega)]
    exact hK _ _ (by rw[if_pos hdg]) (.refl _)
   ·rw[if_neg (by omega)]
    exact hK0 (by rw[if_neg hdg]) _ (.refl _)
  ·intro fr G2 hfr hfr2 s2
   obtain⟨F,hF1,hF2⟩:∃F:List Nat,(List.range (1+k)).filterMap (fun r=>if dgr P n r<d then some (T.int (r:Nat)) else none)=F.map (fun r=>T.int (r:Nat))/\F=(List.range (1+k)).filter fun r=>decide (dgr P n r<d):=by
    refine⟨_,?_,rfl⟩
    generalize List.range (1+k)=l
    induction l with
    | nil=>rfl
    | cons a as ih=>
     rw[List.filterMap_cons,List.filter_cons]
     by_cases h:dgr P n a<d<;>simp[h,ih]
   rw[hF1] at hfr2
   have hFl:F.length<=1+k:=by rw[hF2];have:=List.length_filter_le (fun r=>decide (dgr P n r<d)) (List.range (1+k));rw[List.length_range] at this;exact this
   have hF0:1<=F.length:=by
    obtain⟨r,q1,q2⟩:=kU5 (P:=P) (n:=n) (d:=d) (k:=1+k) hd1 (by omega)
    have:r∈F:=by rw[hF2,List.mem_filter];exact⟨List.mem_range.mpr q1,by simpa using q2⟩
    exact List.length_pos_of_mem this
   have hgp2:=s2 _ _ hgp
   wp_walk using 1,jKo hgp2,jJk hfr2,List.length_map
   refine⟨b,_,m+k,rfl,hbx.sub s2,by omega,by omega,by omega,fun c G3 c0 c1 bx kp=> ?_⟩
   have hfb:fr≠b:=by rintro rfl;obtain⟨o,ho⟩:=hbx.some;rw[ho] at hfr;cases hfr
   have hcF:c.toNat<F.length:=by omega
   have hca:L2.atI (F.map fun r=>T.int (r:Nat)) c=some (.int (F[c.toNat]:Nat)):=by rw[atZ c0];simp[hcF]
   have hmem:F[c.toNat]∈F:=List.getElem_mem hcF
   generalize F[c.toNat]=a at hca hmem
   rw[hF2,List.mem_filter] at hmem
   have ha1:a<1+k:=List.mem_range.mp hmem.1
   have ha2:dgr P n a<d:=by simpa using hmem.2
   have hgp3:=kp _ _ hbp.symm hgp2
   have hgu3:=kp _ _ hbu.symm (s2 _ _ hgu)
   wp_walk using 1,jKd (kp _ _ hfb hfr2),hca,hgp3
   refine⟨by omega,by simp;omega,_,qJ1,[T.int (a:Nat),T.int ((1+k:Nat):Int)],rfl,?_⟩
   have hne:u≠pr:=hpu.symm
   have hE:jKn n (a,1+k)=[a,1+k]:=by unfold jKn;rw[if_neg (show ¬ (1+k)=n by omega)]
   refine bump (es:=[a,1+k]) (n:=n) (f:=dgr P n) (by rw[jJn hne];exact hgu3) (fun _ _=>rfl) (by simp;omega) ?_
   intro G4 v7 hu4 hk4
   have hlt':∀p,p∈P++[(a,1+k)]->p.1<k+1+1/\p.2<k+1+1:=by
    intro p hp
    rw[List.mem_append,List.mem_singleton] at hp
    rcases hp with hp | rfl
    ·have:=hlt p hp;omega
    ·exact⟨by show a<_;omega,by show 1+k<_;omega⟩
   refine xi4 _ _ _ (P++[(a,1+k)]) rfl ⟨by simp[hPl],⟨?_,?_,?_⟩,hlt',?_,?_,?_,?_⟩
   ·intro p hp
    have:=hlt' p hp;omega
   ·intro r hr
    rw[jVp,hE]
    have h0:=hP.deg r hr
    have hz1:=kYm (n:=n) (r:=1+k) hlt (by omega)
    by_cases h1:r=a
    ·subst h1
     have:¬ 1+k=r:=by omega
     simp[this];omega
    ·have h1':¬ a=r:=fun z=>h1 z.symm
     by_cases h2:1+k=r
     ·subst h2;simp[h1'];omega
     ·simp[h1',h2];omega
   ·intro r h1 h2
    by_cases h3:r<k+1
    ·obtain⟨p,q1,q2⟩:=hP.low r h1 h3
     exact⟨p,List.mem_append_left _ q1,q2⟩
    ·exact⟨(a,1+k),by simp,by show 1+k=r;omega,by show a<r;omega⟩
   ·rw[hu4,show (fun r=>dgr P n r+List.count r [a,1+k])=dgr (P++[(a,1+k)]) n from funext fun r=>by rw[jVp,hE]]
   ·rw[hk4 pr hpu,jJh];simp[encE]
   ·obtain⟨x,y,w,z1,z2⟩:=bx
    exact⟨x,y,w,by rw[hk4 b hbu,jJn hbp];exact z1,z2⟩
   ·intro c o hc he
    have hcu:=jJe he hu0
    have hcp:=jJe he hpr0
    rw[hk4 c hcu,jJn hcp]
    exact kp _ _ hc (s2 _ _ (hkp _ _ hc he))
 ·intro τ G1 h_;apply xe4 h_;clear h_;intro v5 v6 v7 P h_;apply ae7 h_;clear h_;intro hPl hP hlt hgu hgp hbx hkp
  rw[List.length_map,List.length_range] at hPl hP hbx
  rw[show n-1+1=n by omega] at hP
  wp_walk using 1,jJv,jKb
  refine⟨b,_,m+(n-1),rfl,hbx,by omega,by omega,by omega,fun q G2 q0 q1 bx kp=> ?_⟩
  refine⟨q,rfl,by omega,by omega,?_⟩
  let J2:Nat->St3->Gp->Prop:=fun k τ G'=>∃(v7 v8 v9 v10 v11:Option T) (P:List (Nat×Nat)),τ=[some (.ref b),some (.int n),some (.int d),some (.ref u),some (.ref pr),v5,v6,v7,v8,v9,v10,v11]/\P.length<=n+k/\POk P n d n/\G' u=some (.lst (jKy n (dgr P n)))/\G' pr=some (.lst (P.map encE))/\BoxAt G' b (m+n+2*k)/\Keep b G G'
  refine⟨J2,?_,?_,?_,?_⟩
  ·exact xi6 _ _ _ _ _ P rfl ⟨by omega,hP,kp _ _ hbu.symm hgu,kp _ _ hbp.symm hgp,bx.mono (by omega),hkp.trans kp⟩
  ·intros;trivial
  ·intro k x τ G3 hx0 h_;apply xe6 h_;clear h_;intro v7 v8 v9 v10 v11 P h_;apply ae6 h_;clear h_;intro hPl hP hgu hgp hbx hkp
   have hk:k<q.toNat:=by have:=(List.getElem?_eq_some_iff.mp hx0).1;rw[jK6] at this;exact this
   wp_walk using 1,jJv,iSeq
   refine⟨b,_,_,rfl,hbx,by omega,by omega,by omega,fun c G4 c0 c1 bx4 kp4=> ?_⟩
   refine⟨b,_,_,rfl,bx4,by omega,by omega,by omega,fun e G5 e0 e1 bx5 kp5=> ?_⟩
   obtain⟨a,rfl⟩:=Int.eq_ofNat_of_zero_le c0
   obtain⟨y,rfl⟩:=Int.eq_ofNat_of_zero_le e0
   have ha:a<n:=by omega
   have hy:y<=n:=by omega
   have kp35:=kp4.trans kp5
   have hgu5:=kp35 _ _ hbu.symm hgu
   have hgp5:=kp35 _ _ hbp.symm hgp
   refine⟨by omega,?_⟩
   have hEn:∀e',e'∈jKn n (a,y)->e'<n:=by
    intro e' he'
    unfold jKn at he'
    split at he'<;>simp at he'<;>simp at * <;>omega
   have hEl:(jKn n (a,y)).length<=2:=by unfold jKn;split<;>simp
   refine jYu (es:=[a,y]) (enc:=fun r:Nat=>T.int r) (fun r=>if r<n then some (T.int (r:Nat)) else none) (by simp;omega) (fun _ _=>trivial) ?_ ?_
   ·intro i r hr G6 K K0 s6 hK hK0
    wp_walk using 1,tSeq
    by_cases hrn:r<n
    ·rw[if_pos (by omega)]
     exact hK _ _ (by rw[if_pos hrn]) (.refl _)
    ·rw[if_neg (by omega)]
     exact hK0 (by rw[if_neg hrn]) _ (.refl _)
   ·intro en G6 hen hen6 s6
    have hEE:List.filterMap (fun r=>if r<n then some (T.int (r:Nat)) else none) [a,y]=(jKn n (a,y)).map fun r=>T.int (r:Nat):=by
     unfold jKn
     by_cases hyn:y=n
     ·simp[ha,hyn]
     ·have:y<n:=by omega
      simp[ha,hyn,this]
    rw[hEE] at hen6
    refine⟨_,jJk hen6,?_⟩
    refine jKl (fun r=>T.bl (decide (dgr P n r+(jKn n (a,y)).count r<=d))) (by omega) (fun G' s=>jJk (s _ _ hen6)) ?_ ?_
    ·intro i r hr G7 K K0 s7 hK
     have hrn:=hEn r (List.mem_of_getElem? hr)
     wp_walk using 1,jKd (s7 _ _ (s6 _ _ hgu5)),jX6 hrn,jKo (s7 _ _ hen6),kUf,s7 _ _ hen6,rLeF
     refine⟨rfl,jZj,?_⟩
     rw[qJy,show decide (((dgr P n r:Nat):Int)+((jKn n (a,y)).count r:Nat)<=(d:Nat))=decide (dgr P n r+(jKn n (a,y)).count r<=d) from decide_eq_decide.mpr (by omega)]
     exact hK _ (.refl _)
    ·intro al G7 hal hal7 s7
     refine⟨al,_,_,rfl,hal7,jUw,_,rfl,?_⟩
     have s57:=s6.trans s7
     have hgp7:=s57 _ _ hgp5
     have hgu7:=s57 _ _ hgu5
     have henp:en≠pr:=(jJe hgp5 hen).symm
     have henu:en≠u:=(jJe hgu5 hen).symm
     have hkp7:Keep b G G7:=(hkp.trans kp35).trans (.sub s57)
     split
     ·rename_i hall
      rw[List.all_eq_true] at hall
      refine⟨by rw[jKo hgp7];trivial,_,hgp7,by simp;omega,_,jJk (by rw[jJn henp];exact s7 _ _ hen6),?_⟩
      refine bump (es:=jKn n (a,y)) (n:=n) (f:=dgr P n) (by rw[jJn hpu.symm];exact hgu7) (fun G' hG'=>jJk (by rw[hG' _ henu,jJn henp];exact s7 _ _ hen6)) hEn ?_
      intro G8 w7 hu8 hk8
      refine xi6 _ _ _ _ _ (P++[(a,y)]) rfl ⟨by simp;omega,⟨?_,?_,?_⟩,?_,?_,?_,?_⟩
      ·intro p hp
       rw[List.mem_append,List.mem_singleton] at hp
       rcases hp with hp | rfl
       ·exact hP.ok p hp
       ·exact⟨ha,hy⟩
      ·intro r hr
       rw[jVp]
       by_cases hm:r∈jKn n (a,y)
       ·simpa using hall r hm
       ·rw[List.count_eq_zero_of_not_mem hm];exact hP.deg r hr
      ·intro r h1 h2
       obtain⟨p,q1,q2⟩:=hP.low r h1 h2
       exact⟨p,List.mem_append_left _ q1,q2⟩
      ·rw[hu8,show (fun r=>dgr P n r+List.count r (jKn n (a,y)))=dgr (P++[(a,y)]) n from funext fun r=>by rw[jVp]]
      ·rw[hk8 pr hpu,jJh];simp[encE]
      ·obtain⟨x1,y1,w,z1,z2⟩:=(bx5.sub s57).mono (show m+n+2*k+1+1<=m+n+2*(k+1) by omega)
       exact⟨x1,y1,w,by rw[hk8 b hbu,jJn hbp];exact z1,z2⟩
      ·intro c o hc he
       have hcu:=jJe he hu0
       have hcp:=jJe he hpr0
       rw[hk8 c hcu,jJn hcp]
       exact hkp7 _ _ hc he
     ·exact xi6 _ _ _ _ _ P rfl ⟨by omega,hP,hgu7,hgp7,(bx5.sub s57).mono (by omega),hkp7⟩
  ·intro τ G3 h_;apply xe6 h_;clear h_;intro v7 v8 v9 v10 v11 P h_;apply ae6 h_;clear h_;intro hPl hP hgu hgp hbx hkp
   rw[jK6] at hPl hbx
   wp_walk using 1,tSeq
   refine⟨b,pr,P,n,_,rfl,hbx,by omega,hbp.symm,hgp,hP.ok,by omega,by omega,fun W G4 mw bx4 kp4=> ?_⟩
   exact kk W G4 (hP.web mw) (bx4.mono (by omega)) (hkp.trans kp4)
def Conn (W:Web):Prop:=∀S:Nat->Prop,S 0->(∀r i s j,S r->en W r i=some (s,j)->S s)->∀r,r<W.length->S r
theorem WebOk.conn {n d:Nat} {W:Web} (h:WebOk n d W):Conn W:=by
 intro S h0 hst r
 induction r using Nat.strongRecOn with
 | ind r ih=>
  intro hr
  by_cases hz:r=0
  ·subst hz;exact h0
  ·obtain⟨i,a,j,q1,q2⟩:=h.low r (by omega) (by rw[<-h.len];exact hr)
   exact hst a j r i (ih a q2 (by omega)) (h.sym _ _ _ _ q1)
theorem jXu {W:Web} {r i:Nat} {e:Nat×Nat} (h:en W r i=some e):r<W.length:=by
 obtain⟨es,h1,h2⟩:=jJ5 h
 exact (List.getElem?_eq_some_iff.mp h1).1
def ring (n:Nat):Web:=(List.range n).map fun r=>[((r+1)%n,1),((r+n-1)%n,0)]
theorem kKp {n r:Nat} (h:r<n):en (ring n) r 0=some ((r+1)%n,1):=jQ1 (es:=[((r+1)%n,1),((r+n-1)%n,0)]) (by simp[ring,h]) rfl
theorem jYt {n r:Nat} (h:r<n):en (ring n) r 1=some ((r+n-1)%n,0):=jQ1 (es:=[((r+1)%n,1),((r+n-1)%n,0)]) (by simp[ring,h]) rfl
theorem jYd {n:Nat}:(ring n).length=n:=by simp[ring]
theorem kZx {n:Nat} (hn:1<=n):WebOk n 2 (ring n) where
 len:=jYd
 sym:=by
  intro r i s j h
  have hr:r<n:=by have:=jXu h;rwa [jYd] at this
  have hi:i=0\/i=1:=by
   obtain⟨es,h1,h2⟩:=jJ5 h
   have:es=[((r+1)%n,1),((r+n-1)%n,0)]:=by simp[ring,hr] at h1;exact h1.symm
   subst this
   have:=(List.getElem?_eq_some_iff.mp h2).1
   simp at this;omega
  rcases hi with rfl | rfl
  ·rw[kKp hr] at h;cases h
   rw[jYt (Nat.mod_lt _ (by omega))]
   congr 2
   by_cases hz:r+1=n
   ·rw[hz,Nat.mod_self];rw[Nat.mod_eq_of_lt (by omega)];omega
   ·rw[Nat.mod_eq_of_lt (show r+1<n by omega),show r+1+n-1=r+n by omega,Nat.add_mod_right,Nat.mod_eq_of_lt hr]
  ·rw[jYt hr] at h;cases h
   rw[kKp (Nat.mod_lt _ (by omega))]
   congr 2
   by_cases hz:r=0
   ·subst hz;rw[Nat.mod_eq_of_lt (show 0+n-1<n by omega),show 0+n-1+1=n by omega,Nat.mod_self]
   ·rw[show r+n-1=(r-1)+n by omega,Nat.add_mod_right,Nat.mod_eq_of_lt (show r-1<n by omega),show r-1+1=r by omega,Nat.mod_eq_of_lt hr]
 deg:=fun r es hr=>by
  have hrl:r<n:=by have:=(List.getElem?_eq_some_iff.mp hr).1;rwa [jYd] at this
  simp[ring,hrl] at hr;rw[<-hr];simp
 low:=fun r h1 h2=>⟨1,r-1,0,by rw[jYt h2,show r+n-1=(r-1)+n by omega,Nat.add_mod_right,Nat.mod_eq_of_lt (show r-1<n by omega)],by omega⟩
def jUn:Sp3:=fun xs G Q=>∃n:Nat,xs=[.int n]/\1<=n/\n<=1000/\∀G',Sub G G'->Q (encW (ring n)) G'
def kYv:List Str:=["_law_many","_law_room"]
noncomputable def jVz:TS3:=
 (tRet (tCB jJ8 (jJc (jKq [false,true] (jKb (jJc (tVar 0) tNil)) (jJg 1) jK2 (tTup (jJc (tTup (jJc (tOp rMod (tOp jJz (tVar 1) (tC (.int 1))) (tVar 0)) (jJc (tC (.int 1)) tNil))) (jJc (tTup (jJc (tOp rMod (tOp rSub (tVar 1) (tC (.int 1))) (tVar 0)) (jJc (tC (.int 0)) tNil))) tNil)))) tNil)))
theorem kJb:RdOk jUn jVz kYv:=by
 intro xs G Q h_;apply xe1 h_;clear h_;intro n h_;apply ae3 h_;clear h_;intro hn1 hn2 kk
 show jVz _ [some (.int n),none] G
 have hs:=sz
 wp_walk using 1,jVz,jKb
 refine⟨by omega,by omega,?_⟩
 rw[show ((n:Int)).toNat=n by omega,jKj]
 refine jKl (fun r=>encR [((r+1)%n,1),((r+n-1)%n,0)]) (by simp;omega) (fun _ _=>trivial) ?_ ?_
 ·intro i r hr G' K K0 s hk
  have hrn:r<n:=by
   rw[List.getElem?_eq_some_iff] at hr;obtain⟨q1,q2⟩:=hr;simp at q1 q2;omega
  wp_walk using 1,tSeq
  have e1:((r:Int)+1)%(n:Int)=(((r+1)%n:Nat):Int):=by simp
  have e2:((r:Int)-1)%(n:Int)=(((r+n-1)%n:Nat):Int):=by
   rw[Int.natCast_emod,show ((r+n-1:Nat):Int)=(r:Int)-1+n by omega,Int.add_emod_right]
  rw[e1,e2]
  refine⟨by omega,by omega,by omega,by omega,by omega,?_⟩
  exact hk _ (.refl _)
 ·intro D G' hD h1 h2
  wp_walk using 1,jJk h1
  have:=kk G' h2
  rw[encW,ring,List.map_map] at this
  exact this
structure Fine (W:Web):Prop where
 len:W.length<=1000
 row:∀(r:Nat) (es:List (Nat×Nat)),W[r]? =some es->es.length<=1000
 rng:∀r i s j,en W r i=some (s,j)->s<W.length
theorem jXe {W:Web} {r:Nat} {es:List (Nat×Nat)} (h:W[r]? =some es):L2.atI (W.map encR) (r:Int)=some (encR es):=by rw[atN];simp[h]
theorem qJs {es:List (Nat×Nat)} {i:Nat} {e:Nat×Nat} (h:es[i]? =some e):L2.atI (es.map encE) (i:Int)=some (encE e):=by rw[atN];simp[h]
theorem jQv {n k:Nat} {x:T} (h:(rngT 0 n)[k]? =some x):k<n/\x= .int (k:Nat):=jYc h
def leE (a b:Nat×Nat):Bool:=HT.lexLe [(a.1:Int),(a.2:Int)] [(b.1:Int),(b.2:Int)]
theorem leE_iff {a b:Nat×Nat}:leE a b=true↔(a.1<b.1\/(a.1=b.1/\a.2<=b.2)):=by
 unfold leE
 rw[HT.lexLe_cons,HT.lexLe_cons,HT.lexLe_nil]
 by_cases h1:a.1=b.1
 ·rw[if_pos (by omega)]
  by_cases h2:a.2=b.2
  ·rw[if_pos (by omega)];simp;omega
  ·rw[if_neg (by omega)];simp;omega
 ·rw[if_neg (by omega)];simp;omega
abbrev Tie:=(Nat×Nat)×(Nat×Nat)
def encT (x:Tie):T:= .tup [encE x.1,encE x.2]
def jQm (r:Nat) (es:List (Nat×Nat)) (i:Nat):Option Tie:=match es[i]? with
 | some e=>if leE (r,i) e=true then some ((r,i),e) else none
 | none=>none
def rowE (W:Web) (r:Nat):List Tie:=match W[r]? with
 | some es=>(List.range es.length).filterMap (jQm r es)
 | none=>[]
def jJu (W:Web):List Tie:=(List.range W.length).flatMap (rowE W)
theorem jUa {r i:Nat} {es:List (Nat×Nat)} {x:Tie} (h:jQm r es i=some x):x.1=(r,i)/\es[i]? =some x.2/\leE x.1 x.2=true:=by
 unfold jQm at h
 split at h
 ·rename_i e he
  split at h
  ·rename_i hl;cases h;exact⟨rfl,he,hl⟩
  ·cases h
 ·cases h
theorem endsL_mem {W:Web} {x:Tie}:x∈jJu W↔en W x.1.1 x.1.2=some x.2/\leE x.1 x.2=true:=by
 obtain⟨⟨r,i⟩,e⟩:=x
 unfold jJu
 rw[List.mem_flatMap]
 constructor
 ·rintro⟨r',h1,h2⟩
  unfold rowE at h2
  split at h2
  ·rename_i es hes
   rw[List.mem_filterMap] at h2
   obtain⟨i',h3,h4⟩:=h2
   obtain⟨q1,q2,q3⟩:=jUa h4
   cases q1
   exact⟨jQ1 hes q2,q3⟩
  ·cases h2
 ·rintro⟨h1,h2⟩
  obtain⟨es,q1,q2⟩:=jJ5 h1
  refine⟨r,List.mem_range.mpr (List.getElem?_eq_some_iff.mp q1).1,?_⟩
  unfold rowE
  rw[q1]
  show _∈List.filterMap _ _
  rw[List.mem_filterMap]
  refine⟨i,List.mem_range.mpr (List.getElem?_eq_some_iff.mp q2).1,?_⟩
  have q2:es[i]? =some e:=q2
  unfold jQm
  rw[q2]
  show (if leE (r,i) e=true then _ else _)=_
  rw[if_pos h2]
theorem pw_fm {α β:Type} {f:α->Option β} {R:β->β->Prop} {xs:List α} (hx:xs.Nodup) (h:∀a a' b b',a≠a'->f a=some b->f a'=some b'->R b b'):(xs.filterMap f).Pairwise R:=by
 rw[List.pairwise_filterMap]
 exact hx.imp fun hne b hb b' hb'=>h _ _ b b' hne hb hb'
theorem kJu {W:Web}:(jJu W).Nodup:=by
 unfold jJu
 have h:∀l:List Nat,l.Nodup->(l.flatMap (rowE W)).Nodup:=by
  intro l hl
  induction l with
  | nil=>exact List.nodup_nil
  | cons a as ih=>
   rw[List.nodup_cons] at hl
   rw[List.flatMap_cons,List.nodup_append]
   refine⟨?_,ih hl.2,?_⟩
   ·unfold rowE
    split
    ·refine pw_fm List.nodup_range ?_
     rintro i i' x x' hne hx hx' rfl
     have q1:=(jUa hx).1
     have q2:=(jUa hx').1
     rw[q1] at q2;cases q2;exact hne rfl
    ·exact List.nodup_nil
   ·intro x hx y hy
    rintro rfl
    rw[List.mem_flatMap] at hy
    obtain⟨a',h1,h2⟩:=hy
    have fst:∀r,x∈rowE W r->x.1.1=r:=by
     intro r hr
     unfold rowE at hr
     split at hr
     ·rw[List.mem_filterMap] at hr
      obtain⟨i,_,h4⟩:=hr
      rw[(jUa h4).1]
     ·cases hr
    have:a=a':=(fst a hx).symm.trans (fst a' h2)
    subst this;exact hl.1 h1
 exact h _ List.nodup_range
def jKz:Sp3:=fun xs G Q=>∃W:Web,xs=[encW W]/\Fine W/\∀p G',G p=none->G' p=some (.lst ((jJu W).map encT))->(jJu W).length<=1000000->Sub G G'->Q (.ref p) G'
def kYw:List Str:=["_law_web_here","_law_found","_law_room","_law_door"]
noncomputable def jV0:TS3:=
 (tSeq (tAsg (tLst tNil) (jJg 1))
 (tSeq (tFor (jKb (jJc (tCB rLen (jJc (tVar 0) tNil)) tNil)) (jJg 2) (tFor (jKb (jJc (tCB rLen (jJc (tOp rIxF (tVar 0) (tVar 2)) tNil)) tNil)) (jJg 3) (tIfS (jKa (tOp rLeF (tTup (jJc (tVar 2) (jJc (tVar 3) tNil))) (tOp rIxF (tOp rIxF (tVar 0) (tVar 2)) (tVar 3)))) (jUk (tBM "list" jKf (tVar 1) (jJc (tTup (jJc (tTup (jJc (tVar 2) (jJc (tVar 3) tNil))) (jJc (tOp rIxF (tOp rIxF (tVar 0) (tVar 2)) (tVar 3)) tNil))) tNil))) jQt)))
 (tRet (tVar 1))))
theorem kJc:RdOk jKz jV0 kYw:=by
 intro xs G Q h_;apply xe1 h_;clear h_;intro W h_;apply ae2 h_;clear h_;intro fine kk
 show jV0 _ [some (.tup (W.map encR)),none,none,none] G
 have hs:=sz
 have hl:=fine.len
 wp_walk using 1,jV0,jJv,jKb,List.length_map
 refine⟨Nat.zero_le _,fun p hp=>⟨by omega,by omega,?_⟩⟩
 rw[show ((W.length:Int)).toNat=W.length by omega]
 refine⟨fun k τ G'=>∃(v2 v3:Option T),τ=[some (.tup (W.map encR)),some (.ref p),v2,v3]/\G' p=some (.lst (((List.range k).flatMap (rowE W)).map encT))/\((List.range k).flatMap (rowE W)).length<=1000*k/\Sub G G',?_,?_,?_,?_⟩
 ·exact⟨none,none,rfl,jJh,Nat.zero_le _,.new hp⟩
 ·intros;trivial
 ·intro k x τ G1 hx h_;apply xe2 h_;clear h_;intro v2 v3 h_;apply ae3 h_;clear h_;intro h1 h2 h3
  obtain⟨hk,rfl⟩:=jQv hx
  have hW:W[k]? =some W[k]:=List.getElem?_eq_getElem hk
  generalize W[k]=es at hW
  have hes:=fine.row k es hW
  wp_walk using 1,jJv,jKb,jXe hW,encR,List.length_map
  refine⟨by omega,by omega,?_⟩
  rw[show ((es.length:Int)).toNat=es.length by omega]
  refine⟨fun i τ G'=>∃(v3:Option T),τ=[some (.tup (W.map encR)),some (.ref p),some (.int k),v3]/\G' p=some (.lst (((List.range k).flatMap (rowE W)++(List.range i).filterMap (jQm k es)).map encT))/\((List.range k).flatMap (rowE W)++(List.range i).filterMap (jQm k es)).length<=1000*k+i/\Sub G G',?_,?_,?_,?_⟩
  ·exact⟨v3,rfl,by simpa using h1,by simpa using h2,h3⟩
  ·intros;trivial
  ·intro i x τ G2 hx h_;apply xe1 h_;clear h_;intro v3 h_;apply ae3 h_;clear h_;intro i1 i2 i3
   obtain⟨hi,rfl⟩:=jQv hx
   have hE:es[i]? =some es[i]:=List.getElem?_eq_getElem hi
   generalize es[i]=e at hE
   wp_walk using 1,rLeF,jXe hW,encR,qJs hE,encE,jKo i1,i1
   refine⟨by omega,?_⟩
   have hle:HT.lexLe [(k:Int),(i:Int)] [(e.1:Int),(e.2:Int)]=leE (k,i) e:=rfl
   rw[hle]
   by_cases hc:leE (k,i) e=true
   ·have hcell:jQm k es i=some ((k,i),e):=by unfold jQm;rw[hE];show (if _ then _ else _)=_;rw[if_pos hc]
    rw[if_pos hc]
    refine⟨by omega,by omega,by rw[List.length_map];omega,?_,?_,i3.over hp⟩
    ·rw[List.range_succ,List.filterMap_append];simp[hcell,encT,encE]
    ·rw[List.range_succ,List.filterMap_append,List.length_append,List.length_append]
     rw[List.length_append] at i2
     simp[hcell] at i2 ⊢; omega
   ·have hcell:jQm k es i=none:=by unfold jQm;rw[hE];show (if _ then _ else _)=_;rw[if_neg hc]
    rw[if_neg hc]
    refine⟨?_,?_,i3⟩
    ·rw[List.range_succ,List.filterMap_append];simp[hcell]
    ·rw[List.range_succ,List.filterMap_append];simp[hcell];simp at i2;omega
  ·intro τ G' h_;apply xe1 h_;clear h_;intro v3 h_;apply ae3 h_;clear h_;intro i1 i2 i3
   rw[jK6] at i1 i2
   have e1:(List.range (k+1)).flatMap (rowE W)=(List.range k).flatMap (rowE W)++(List.range es.length).filterMap (jQm k es):=by
    rw[List.range_succ,List.flatMap_append]
    congr 1
    simp[rowE,hW]
   refine⟨_,_,rfl,by rw[e1];exact i1,by rw[e1];omega,i3⟩
 ·intro τ G1 h_;apply xe2 h_;clear h_;intro v2 v3 h_;apply ae3 h_;clear h_;intro h1 h2 h3
  rw[jK6] at h1 h2
  wp_walk using 1,tSeq
  exact kk p G1 hp h1 (by show ((List.range W.length).flatMap (rowE W)).length<=_;omega) h3
def jJi (F:List Nat):List T:=F.map fun e=>T.int (e:Nat)
theorem kX6 {F:List Nat} {r:Nat}:inT (.int r) (jJi F)=F.contains r:=by
 unfold inT jJi
 rw[List.any_map,List.contains_eq_any_beq]
 congr 1
 funext e
 simp only[Function.comp,eqT]
 by_cases h:e=r
 ·subst h;simp
 ·have h2:¬ (e:Int)=r:=by omega
  have h3:¬ r=e:=fun z=>h z.symm
  rw[beq_eq_false_iff_ne.mpr h3,beq_eq_false_iff_ne.mpr h2]
theorem kX7 {G:Gp} {p:Addr} {F:List Nat} {r:Nat} (h:G p=some (.lst (jJi F))):inR G (.int r) (.ref p)=some (F.contains r):=by
 unfold inR
 rw[jJk h]
 show (if _ then _ else _)=_
 rw[if_pos ⟨rfl,jZj⟩,kX6]
theorem jK8:∀ {n:Nat} {F:List Nat} (hn:F.Nodup) (hl:∀x,x∈F->x<n),F.length<=n
 | 0,F,hn,hl=>by
  cases F with
  | nil=>exact Nat.le_refl _
  | cons a as=>exact absurd (hl a (List.mem_cons_self)) (Nat.not_lt_zero _)
 | n+1,F,hn,hl=>by
  have h1:=jK8 (n:=n) (hn.erase n) (fun x hx=>by
   rw[hn.mem_erase_iff] at hx
   have:=hl x hx.2;omega)
  by_cases h:n∈F
  ·rw[List.length_erase_of_mem h] at h1;omega
  ·rw[List.erase_of_not_mem h] at h1;omega
theorem kUr {F:List Nat} {n:Nat} (hn:F.Nodup) (hl:∀x,x∈F->x<n) (he:F.length=n):∀r,r<n->r∈F:=by
 intro r hr
 apply Classical.byContradiction
 intro hm
 have:(r::F).length<=n:=jK8 (List.nodup_cons.mpr ⟨hm,hn⟩) (fun x hx=>by rw[List.mem_cons] at hx;rcases hx with rfl | hx;exact hr;exact hl x hx)
 simp at this;omega
def Closed (W:Web) (S:Nat->Prop):Prop:=∀r i s j,S r->en W r i=some (s,j)->S s
structure Found (W:Web) (r0:Nat) (F:List Nat):Prop where
 nd:F.Nodup
 lt:∀x,x∈F->x<W.length
 got:∀S,S r0->Closed W S->∀x,x∈F->S x
def vis (F:List Nat) (es:List (Nat×Nat)):List Nat:=es.foldl (fun F e=>if F.contains e.1=true then F else F++[e.1]) F
def row (W:Web) (r:Nat):List (Nat×Nat):=(W[r]?).getD []
theorem kQ5 {W:Web} {r:Nat} {es:List (Nat×Nat)} (h:W[r]? =some es):row W r=es:=by unfold row;rw[h];rfl
theorem jVg {F:List Nat} {es:List (Nat×Nat)} {j:Nat} {e:Nat×Nat} (h:es[j]? =some e):vis F (es.take (j+1))=if (vis F (es.take j)).contains e.1=true then vis F (es.take j) else vis F (es.take j)++[e.1]:=by
 unfold vis
 rw[List.take_succ,h,List.foldl_append];rfl
def bfsN (W:Web):Nat->Nat->List Nat->List Nat
 | 0,_,F=>F
 | n+1,k,F=>match F[k]? with
  | some r=>bfsN W n (k+1) (vis F (row W r))
  | none=>F
def bfs (W:Web) (r:Nat):List Nat:=bfsN W W.length 0 [r]
theorem jXj {W:Web} {n k:Nat} {F:List Nat} (h:F.length<=k):bfsN W n k F=F:=by
 cases n with
 | zero=>rfl
 | succ n=>rw[bfsN,List.getElem?_eq_none h]
theorem jXi {W:Web} {n k r:Nat} {F:List Nat} (h:F[k]? =some r):bfsN W (n+1) k F=bfsN W n (k+1) (vis F (row W r)):=by rw[bfsN,h]
noncomputable def jK5:Sp3:=fun xs G Q=>∃(W:Web) (r0:Nat),xs=[encW W,.int r0]/\Fine W/\r0<W.length/\∀p G' F,G p=none->G' p=some (.lst (jJi F))->Found W r0 F->F=bfs W r0->Sub G G'->Q (.ref p) G'
def kJ2:List Str:=["_law_web_here","_law_room","_law_found","_law_at","_law_other","_law_door"]
noncomputable def jQx:TS3:=
 (tSeq (tAsg (tLst (jJc (tVar 1) tNil)) (jJg 2))
 (tSeq (tAsg (tC (.int 0)) (jJg 3))
 (tSeq (jY3 (jKa (tOp rLt (tVar 3) (tCB rLen (jJc (tVar 2) tNil)))) (tSeq (tFor (iSeq (tOp rIxF (tVar 0) (tOp rIxF (tVar 2) (tVar 3)))) (gTup 2 (jJx (jJg 4) (jJx (jJg 5) gNil))) (tIfS (jKa (tOp jQ6 (tVar 4) (tVar 2))) (jUk (tBM "list" jKf (tVar 2) (jJc (tVar 4) tNil))) jQt))
 (tAsg (tOp jJz (tVar 3) (tC (.int 1))) (jJg 3))))
 (tRet (tVar 2)))))
theorem jXn:RdOk jK5 jQx kJ2:=by
 intro xs G Q h_;apply xe2 h_;clear h_;intro W r0 h_;apply ae3 h_;clear h_;intro fine hr0 kk
 show jQx _ [some (.tup (W.map encR)),some (.int r0),none,none,none,none] G
 have hs:=sz
 have hl:=fine.len
 wp_walk using 1,jQx,jY3,jJv
 refine⟨by omega,fun p hp=> ?_⟩
 refine⟨fun m τ G'=>∃(at':Nat) (v4 v5:Option T) (F:List Nat),τ=[some (.tup (W.map encR)),some (.int r0),some (.ref p),some (.int at'),v4,v5]/\G' p=some (.lst (jJi F))/\Found W r0 F/\Sub G G'/\bfs W r0=bfsN W (W.length-at') at' F/\m=W.length-at',⟨_,0,none,none,[r0],rfl,jJh,⟨by simp,by simpa using hr0,fun S h0 _ x hx=>by rw[List.mem_singleton] at hx;rw[hx];exact h0⟩,.new hp,rfl,rfl⟩,?_⟩
 intro m τ G1 h_;apply xe4 h_;clear h_;intro at' v4 v5 F h_;apply ae5 h_;clear h_;intro h1 h2 h3 hB e4_
 subst e4_
 wp_walk using 1,iSeq,jJk h1,jKd h1
 have hFl:=jK8 h2.nd h2.lt
 split
 ·rename_i hc
  have hat:at'<F.length:=by rw[jJi,List.length_map] at hc;omega
  have hF:F[at']? =some F[at']:=List.getElem?_eq_getElem hat
  have hfm:F[at']∈F:=List.getElem_mem hat
  generalize F[at']=r at hF hfm
  have hrW:=h2.lt r hfm
  have hW:W[r]? =some W[r]:=List.getElem?_eq_getElem hrW
  generalize W[r]=es at hW
  have hatI:L2.atI (jJi F) (at':Int)=some (.int r):=by rw[atN];simp[jJi,hF]
  wp_walk using 1,hatI,jXe hW,encR
  refine⟨fun τ G'=>∃(v4 v5:Option T) (F:List Nat),τ=[some (.tup (W.map encR)),some (.int r0),some (.ref p),some (.int ((at'+1:Nat):Int)),v4,v5]/\G' p=some (.lst (jJi F))/\Found W r0 F/\Sub G G'/\bfs W r0=bfsN W (W.length-(at'+1)) (at'+1) F,?_,?_⟩
  ·intro τ' G' h_;apply xe3 h_;clear h_;intro v4 v5 F' h_;apply ae4 h_;clear h_;intro i1 i2 i3 iB
   exact⟨W.length-(at'+1),by omega,at'+1,v4,v5,rfl,F',i1,i2,i3,iB,rfl⟩
  ·refine⟨fun j τ G'=>∃(v4 v5:Option T) (F':List Nat),τ=[some (.tup (W.map encR)),some (.int r0),some (.ref p),some (.int at'),v4,v5]/\G' p=some (.lst (jJi F'))/\r∈F'/\Found W r0 F'/\Sub G G'/\F'=vis F (es.take j),?_,?_,?_,?_⟩
   ·exact⟨v4,v5,F,rfl,h1,hfm,h2,h3,rfl⟩
   ·intros;trivial
   ·intro j x τ G2 hx0 h_;apply xe3 h_;clear h_;intro v4 v5 F0 h_;apply ae5 h_;clear h_;intro i1 i2 i3 i4 iB
    obtain⟨⟨s,t⟩,hx,rfl⟩:=jJ3 hx0
    have hen:=jQ1 hW hx
    wp_walk using 1,encE,jQ6,kX7 i1,jKo i1,i1
    by_cases hm:s∈F0
    ·rw[if_neg (by simp[hm])]
     exact⟨F0,rfl,i2,i3,i4,by rw[jVg hx,<-iB,if_pos (by simpa using hm)]⟩
    ·rw[if_pos (by simp[hm])]
     have hFl:=jK8 i3.nd i3.lt
     refine⟨by rw[jJi,List.length_map];omega,F0++[s],by simp[jJi],List.mem_append_left _ i2,⟨?_,?_,?_⟩,i4.over hp,by rw[jVg hx,<-iB,if_neg (by simpa using hm)]⟩
     ·rw[List.nodup_append];exact⟨i3.nd,by simp,fun a ha b hb=>by rw[List.mem_singleton] at hb;subst hb;rintro rfl;exact hm ha⟩
     ·intro x hx
      rw[List.mem_append,List.mem_singleton] at hx
      rcases hx with hx | rfl
      ·exact i3.lt x hx
      ·exact fine.rng _ _ _ _ hen
     ·intro S h0 hc x hx
      rw[List.mem_append,List.mem_singleton] at hx
      rcases hx with hx | rfl
      ·exact i3.got S h0 hc x hx
      ·exact hc _ _ _ _ (i3.got S h0 hc r i2) hen
   ·intro τ G' h_;apply xe3 h_;clear h_;intro v4 v5 F0 h_;apply ae5 h_;clear h_;intro i1 i2 i3 i4 iB
    wp_walk using 1,tSeq
    refine⟨by simp,F0,i1,i3,i4,?_⟩
    rw[List.length_map,List.take_length] at iB
    rw[hB,show W.length-at'=W.length-(at'+1)+1 by omega,jXi hF,kQ5 hW,<-iB]
 ·rename_i hc
  exact kk p G1 F hp h1 h2 (by rw[hB,jXj (by rw[jJi,List.length_map] at hc;omega)]) h3
structure Turn (m:Nat) (σ:List Nat):Prop where
 len:σ.length=m
 nd:σ.Nodup
 lt:∀x,x∈σ->x<m
def Invol (σ:List Nat):Prop:=∀(k x:Nat),σ[k]? =some x->σ[x]? =some k
theorem Turn.at {m:Nat} {σ:List Nat} (h:Turn m σ) {k:Nat} (hk:k<m):∃x,σ[k]? =some x/\x<m:=by
 have hk':k<σ.length:=by rw[h.len];exact hk
 exact⟨σ[k],List.getElem?_eq_getElem hk',h.lt _ (List.getElem_mem hk')⟩
theorem Turn.onto {m:Nat} {σ:List Nat} (h:Turn m σ) {x:Nat} (hx:x<m):∃k,k<m/\σ[k]? =some x:=by
 obtain⟨k,hk⟩:=List.getElem?_of_mem (kUr h.nd h.lt h.len x hx)
 exact⟨k,by rw[<-h.len];exact (List.getElem?_eq_some_iff.mp hk).1,hk⟩
theorem Turn.inj {m:Nat} {σ:List Nat} (h:Turn m σ) {k k' x:Nat} (h1:σ[k]? =some x) (h2:σ[k']? =some x):k=k':=
 (List.getElem?_inj (List.getElem?_eq_some_iff.mp h1).1 h.nd).mp (h1.trans h2.symm)
theorem Invol.turn {m:Nat} {σ:List Nat} (hl:σ.length=m) (h:Invol σ):Turn m σ where
 len:=hl
 nd:=by
  unfold List.Nodup
  refine List.pairwise_iff_getElem.mpr ?_
  intro i j hi hj hij e
  have h1:=h j _ (List.getElem?_eq_getElem hj)
  have h2:=h i _ (List.getElem?_eq_getElem hi)
  rw[e,h1] at h2;cases h2;omega
 lt:=fun x hx=>by
  obtain⟨k,hk⟩:=List.getElem?_of_mem hx
  rw[<-hl];exact (List.getElem?_eq_some_iff.mp (h k x hk)).1
theorem Invol.swap {σ:List Nat} {a b:Nat} (h:Invol σ) (ha:σ[a]? =some a) (hb:σ[b]? =some b) (hab:a≠b):Invol ((σ.set a b).set b a):=by
 have hal:=(List.getElem?_eq_some_iff.mp ha).1
 have hbl:=(List.getElem?_eq_some_iff.mp hb).1
 have gt:∀k,((σ.set a b).set b a)[k]? =if k=b then some a else if k=a then some b else σ[k]? :=by
  intro k
  by_cases h1:k=b
  ·subst h1;rw[if_pos rfl,List.getElem?_set_self (by simpa using hbl)]
  ·rw[if_neg h1,List.getElem?_set_ne (fun z=>h1 z.symm)]
   by_cases h2:k=a
   ·subst h2;rw[if_pos rfl,List.getElem?_set_self hal]
   ·rw[if_neg h2,List.getElem?_set_ne (fun z=>h2 z.symm)]
 intro k x hk
 rw[gt] at hk ⊢
 by_cases h1:k=b
 ·subst h1;rw[if_pos rfl] at hk;cases hk
  rw[if_neg hab,if_pos rfl]
 ·rw[if_neg h1] at hk
  by_cases h2:k=a
  ·subst h2;rw[if_pos rfl] at hk;cases hk
   rw[if_pos rfl]
  ·rw[if_neg h2] at hk
   have hx:=h k x hk
   have h3:x≠b:=by rintro rfl;rw[hb] at hx;cases hx;exact h1 rfl
   have h4:x≠a:=by rintro rfl;rw[ha] at hx;cases hx;exact h2 rfl
   rw[if_neg h3,if_neg h4];exact hx
noncomputable def jQu:Sp3:=fun xs G Q=>∃(b:Addr) (m n:Nat) (own:Bool),xs=[.ref b,.int m,.bl own]/\BoxAt G b n/\n+m<2^40/\1<=m/\m<=1000/\∀ σ G',Turn m σ->(own=true->Invol σ)->BoxAt G' b (n+m)->Keep b G G'->Q (.tup (jJi σ)) G'
def kYs:List Str:=["_law_box_here","_law_many","_law_own","_law_order","_law_k","_law_turn_here","_law_first","_law_second"]
noncomputable def jVw:TS3:=
 (tSeq (tAsg (tLst tNil) (jJg 3))
 (tSeq (tFor (jKb (jJc (tVar 1) tNil)) (jJg 4) (jUk (tBM "list" jV3 (tVar 3) (jJc (jJw jJq (jJc (tVar 0) (jJc (tOp jJz (tVar 4) (tC (.int 1))) tNil))) (jJc (tVar 4) tNil)))))
 (tSeq (tIfS (tNot (tTru rTru (tVar 2))) (tRet (tCB jJ8 (jJc (tVar 3) tNil))) jQt)
 (tSeq (tAsg (jKh (jJc (tVar 1) tNil)) (jJg 5))
 (tSeq (tFor (kYa (jJc (tC (.int 0)) (jJc (tOp rSub (tVar 1) (tC (.int 1))) (jJc (tC (.int 2)) tNil)))) (jJg 4) (tSeq (tPar 6 7 (jJc (tOp rIxF (tVar 3) (tVar 4)) (jJc (tOp rIxF (tVar 3) (tOp jJz (tVar 4) (tC (.int 1)))) tNil)))
 (tSeq (tAsg (tVar 7) (gSub (tVar 5) (tVar 6) jQk))
 (tAsg (tVar 6) (gSub (tVar 5) (tVar 7) jQk)))))
 (tRet (tCB jJ8 (jJc (tVar 5) tNil))))))))
theorem jZ8:RdOk jQu jVw kYs:=by
 intro xs G Q h_;apply xe4 h_;clear h_;intro b m n own h_;apply ae5 h_;clear h_;intro hb hn hm1 hm2 kk
 show jVw _ [some (.ref b),some (.int m),some (.bl own),none,none,none,none,none] G
 have hs:=sz
 obtain⟨bo,hbo⟩:=hb.some
 wp_walk using 1,jVw,jJv,jKb,kYa,jKh
 refine⟨Nat.zero_le _,fun o ho=>⟨by omega,by omega,?_⟩⟩
 have hob:=jJe hbo ho
 rw[show ((m:Int)).toNat=m by omega]
 refine⟨fun k τ G'=>∃(v4:Option T) (σ:List Nat),τ=[some (.ref b),some (.int m),some (.bl own),some (.ref o),v4,none,none,none]/\G' o=some (.lst (jJi σ))/\Turn k σ/\BoxAt G' b (n+k)/\Keep b G G',?_,?_,?_,?_⟩
 ·exact⟨none,[],rfl,jJh,⟨rfl,List.nodup_nil,fun x hx=>by cases hx⟩,hb.gup hob,.new ho⟩
 ·intros;trivial
 ·intro k x τ G1 hx h_;apply xe2 h_;clear h_;intro v4 σ h_;apply ae4 h_;clear h_;intro h1 h2 h3 h4
  obtain⟨hk,rfl⟩:=jQv hx
  wp_walk using 1,jKo h1
  refine⟨b,_,n+k,rfl,h3,by omega,by omega,by omega,fun c G2 c0 c1 bx kp=> ?_⟩
  have h1':=kp _ _ hob.symm h1
  refine⟨jJi σ,c,rfl,h1',c0,by rw[jJi,List.length_map,h2.len];omega,by rw[jJi,List.length_map,h2.len];omega,σ.take c.toNat++k::σ.drop c.toNat,?_,⟨?_,?_,?_⟩,bx.gup hob,(h4.trans kp).over ho⟩
  ·simp[insT,jJi,List.map_take,List.map_drop]
  ·rw[ins_perm.length_eq,List.length_append,h2.len];rfl
  ·rw[ins_perm.nodup_iff,List.nodup_append]
   exact⟨h2.nd,by simp,fun a ha e he=>by rw[List.mem_singleton] at he;subst he;have:=h2.lt a ha;omega⟩
  ·intro x hx
   rw[ins_perm.mem_iff,List.mem_append,List.mem_singleton] at hx
   rcases hx with hx | rfl
   ·have:=h2.lt x hx;omega
   ·omega
 ·intro τ G1 h_;apply xe2 h_;clear h_;intro v4 σ h_;apply ae4 h_;clear h_;intro h1 h2 h3 h4
  rw[jK6] at h2 h3
  wp_walk using 1,jJk h1
  cases own with
  | false=>exact kk σ G1 h2 (fun z=>by cases z) h3 h4
  | true=>
   wp_walk using 1,jJv,kYa,jKh
   refine⟨by omega,by omega,fun t ht=> ?_⟩
   have hto:=jJe h1 ht
   have htb:b≠t:=by obtain⟨u,hu⟩:=h3.some;exact jJe hu ht
   have ht0:=h4.none htb.symm ht
   have hsm:Builtin.Range.small 0 ((m:Int)-1) 2=true:=by
    unfold Builtin.Range.small Builtin.Range.rangeSize
    simp only[Builtin.Range.rangeFitsLong,Bool.and_eq_true,Bool.or_eq_true,decide_eq_true_eq,beq_iff_eq,show (2:Int)>0 by decide,if_true]
    split<;>omega
   refine⟨by decide,by decide,hsm,?_⟩
   have hN:(Builtin.Range.rangeSize 0 ((m:Int)-1) 2).toNat=m / 2:=by
    unfold Builtin.Range.rangeSize;rw[if_pos (by decide)]
    split<;>omega
   rw[hN,show ((m:Int)).toNat=m by omega,jKj]
   refine⟨fun k τ G'=>∃(v4 v6 v7:Option T) (ρ:List Nat),τ=[some (.ref b),some (.int m),some (.bl true),some (.ref o),v4,some (.ref t),v6,v7]/\G' t=some (.lst (jJi ρ))/\G' o=some (.lst (jJi σ))/\Invol ρ/\ρ.length=m/\(∀i x,2*k<=i->σ[i]? =some x->ρ[x]? =some x)/\BoxAt G' b (n+m)/\Keep b G G',?_,?_,?_,?_⟩
   ·refine⟨_,_,_,List.range m,rfl,jJh,by rw[jJn hto];exact h1,?_,by simp,?_,h3.gup htb,h4.over ht0⟩
    ·intro k x hk
     obtain⟨q1,q2⟩:=List.getElem?_eq_some_iff.mp hk
     simp at q1 q2;subst q2;exact hk
    ·intro i x _ hx
     have:=h2.lt x (List.mem_of_getElem? hx)
     simp[this]
   ·intros;trivial
   ·intro k x τ G2 hx h_;apply xe4 h_;clear h_;intro v4 v6 v7 ρ h_;apply ae7 h_;clear h_;intro i1 i2 i3 i4 i5 i6 i7
    obtain⟨hk,rfl⟩:k<m / 2/\x= .int ((2*k:Nat):Int):=by
     obtain⟨q1,q2⟩:=List.getElem?_eq_some_iff.mp hx
     simp[rngS] at q1 q2;refine⟨q1,?_⟩;rw[<-q2];congr 1;omega
    obtain⟨a,ha,_⟩:=h2.at (show 2*k<m by omega)
    obtain⟨c,hc,_⟩:=h2.at (show 2*k+1<m by omega)
    have hca:L2.atI (jJi σ) ((2*k:Nat):Int)=some (.int (a:Nat)):=by rw[atN];simp[jJi,ha]
    have hcc:L2.atI (jJi σ) (((2*k:Nat):Int)+1)=some (.int (c:Nat)):=by rw[show ((2*k:Nat):Int)+1=((2*k+1:Nat):Int) by omega,atN];simp[jJi,hc]
    have hac:a≠c:=by rintro rfl;have:=h2.inj ha hc;omega
    have fa:=i5 (2*k) a (Nat.le_refl _) ha
    have fc:=i5 (2*k+1) c (by omega) hc
    have hal:a<ρ.length:=(List.getElem?_eq_some_iff.mp fa).1
    have hcl:c<ρ.length:=(List.getElem?_eq_some_iff.mp fc).1
    have ixa:L2.ixN (jJi ρ).length (a:Int)=some a:=jXs (by rw[jJi,List.length_map];exact hal)
    have ixc:L2.ixN ((jJi ρ).set a (.int (c:Nat))).length (c:Int)=some c:=jXs (by rw[List.length_set,jJi,List.length_map];exact hcl)
    wp_walk using 1,jKd i2,hca,hcc,jQ5 i1 ixa,ixc
    have e1:((jJi ρ).set a (.int (c:Nat))).set c (.int (a:Nat))=jJi ((ρ.set a c).set c a):=by simp[jJi,List.map_set]
    rw[e1]
    refine⟨(ρ.set a c).set c a,rfl,by rw[jJn hto];exact i2,i3.swap fa fc hac,by simp[i4],?_,i6.gup htb,i7.over ht0⟩
    intro i x hi hx
    have hxa:a≠x:=by rintro rfl;have:=h2.inj ha hx;omega
    have hxc:c≠x:=by rintro rfl;have:=h2.inj hc hx;omega
    rw[List.getElem?_set_ne hxc,List.getElem?_set_ne hxa]
    exact i5 i x (by omega) hx
   ·intro τ G2 h_;apply xe4 h_;clear h_;intro v4 v6 v7 ρ h_;apply ae7 h_;clear h_;intro i1 i2 i3 i4 i5 i6 i7
    wp_walk using 1,jJk i1
    exact kk ρ G2 (i3.turn i4) (fun _=>i3) i6 i7
structure TurnsOk (W:Web) (m:Nat) (Ts:List (List Nat)):Prop where
 len:Ts.length=(jJu W).length
 ok:∀(t:Nat) (x:Tie) (σ:List Nat),(jJu W)[t]? =some x->Ts[t]? =some σ->Turn m σ/\(x.1=x.2->Invol σ)
noncomputable def Bel (W:Web) (Ts:List (List Nat)) (x i y j:Nat):Prop:=∃(t:Nat) (e f:Nat×Nat) (σ:List Nat) (k k':Nat),(jJu W)[t]? =some (e,f)/\Ts[t]? =some σ/\σ[k]? =some k'/\
 ((x=e.1+k*W.length/\i=e.2/\y=f.1+k'*W.length/\j=f.2)\/(y=e.1+k*W.length/\j=e.2/\x=f.1+k'*W.length/\i=f.2))
theorem Bel.symm {W:Web} {Ts:List (List Nat)} {x i y j:Nat} (h:Bel W Ts x i y j):Bel W Ts y j x i:=by
 obtain⟨t,e,f,σ,k,k',h1,h2,h3,h4⟩:=h
 exact⟨t,e,f,σ,k,k',h1,h2,h3,h4.symm⟩
theorem spl {n r k r' k':Nat} (h1:r<n) (h2:r'<n) (h:r+k*n=r'+k'*n):r=r'/\k=k':=by
 have e1:(r+k*n)%n=r:=by rw[Nat.add_mul_mod_self_right,Nat.mod_eq_of_lt h1]
 have e2:(r'+k'*n)%n=r':=by rw[Nat.add_mul_mod_self_right,Nat.mod_eq_of_lt h2]
 have hn:0<n:=by omega
 have e3:(r+k*n) / n=k:=by rw[Nat.add_mul_div_right _ _ hn,Nat.div_eq_of_lt h1,Nat.zero_add]
 have e4:(r'+k'*n) / n=k':=by rw[Nat.add_mul_div_right _ _ hn,Nat.div_eq_of_lt h2,Nat.zero_add]
 rw[h] at e1 e3
 exact⟨e1.symm.trans e2,e3.symm.trans e4⟩
theorem jUx {W:Web} {t:Nat} {x:Tie} (h:(jJu W)[t]? =some x):en W x.1.1 x.1.2=some x.2/\leE x.1 x.2=true:=endsL_mem.mp (List.mem_of_getElem? h)
theorem jX9 {W:Web} {t t':Nat} {x:Tie} (h:(jJu W)[t]? =some x) (h':(jJu W)[t']? =some x):t=t':=(List.getElem?_inj (List.getElem?_eq_some_iff.mp h).1 kJu).mp (h.trans h'.symm)
theorem Bel.fn {W:Web} {m:Nat} {Ts:List (List Nat)} {x i y j y' j':Nat} (hs:Sym W) (ok:TurnsOk W m Ts) (h:Bel W Ts x i y j) (h':Bel W Ts x i y' j'):y=y'/\j=j':=by
 obtain⟨t,e,f,σ,k,l,h1,h2,h3,h4⟩:=h
 obtain⟨t',e',f',σ',k',l',h1',h2',h3',h4'⟩:=h'
 obtain⟨q1,q2⟩:=jUx h1
 obtain⟨q1',q2'⟩:=jUx h1'
 have q1:en W e.1 e.2=some (f.1,f.2):=q1
 have q1':en W e'.1 e'.2=some (f'.1,f'.2):=q1'
 have qs:=hs _ _ _ _ q1
 have qs':=hs _ _ _ _ q1'
 have l1:=jXu q1
 have l2:=jXu qs
 have l1':=jXu q1'
 have l2':=jXu qs'
 obtain⟨e1,e2⟩:=e;obtain⟨f1,f2⟩:=f;obtain⟨e1',e2'⟩:=e';obtain⟨f1',f2'⟩:=f'
 obtain⟨T1,T2⟩:=ok.ok _ _ _ h1 h2
 simp only at *
 rcases h4 with ⟨rfl,rfl,rfl,rfl⟩ | ⟨rfl,rfl,rfl,rfl⟩<;>rcases h4' with ⟨z1,rfl,rfl,rfl⟩ | ⟨rfl,rfl,z1,rfl⟩
 ·obtain⟨rfl,rfl⟩:=spl l1 l1' z1
  rw[q1] at q1';cases q1'
  have:=jX9 h1 h1';subst this
  rw[h2] at h2';cases h2'
  rw[h3] at h3';cases h3'
  exact⟨rfl,rfl⟩
 ·obtain⟨rfl,rfl⟩:=spl l1 l2' z1
  rw[q1] at qs';cases qs'
  have a1:=leE_iff.mp q2
  have a2:=leE_iff.mp q2'
  simp only at a1 a2
  have:e1=f1/\i=j:=by omega
  obtain⟨rfl,rfl⟩:=this
  have:=jX9 h1 h1';subst this
  rw[h2] at h2';cases h2'
  have:=T2 rfl _ _ h3'
  rw[h3] at this;cases this
  exact⟨rfl,rfl⟩
 ·obtain⟨rfl,rfl⟩:=spl l2 l1' z1
  rw[qs] at q1';cases q1'
  have a1:=leE_iff.mp q2
  have a2:=leE_iff.mp q2'
  simp only at a1 a2
  have:e1=f1/\j=i:=by omega
  obtain⟨rfl,rfl⟩:=this
  have:=jX9 h1 h1';subst this
  rw[h2] at h2';cases h2'
  have:=T2 rfl _ _ h3
  rw[h3'] at this;cases this
  exact⟨rfl,rfl⟩
 ·obtain⟨rfl,rfl⟩:=spl l2 l2' z1
  rw[qs] at qs';cases qs'
  have:=jX9 h1 h1';subst this
  rw[h2] at h2';cases h2'
  have:=T1.inj h3 h3';subst this
  exact⟨rfl,rfl⟩
def cl (M:List (List T)) (x i:Nat):Option T:=(M[x]?).bind fun ts=>ts[i]?
def put (M:List (List T)) (x i:Nat) (v:T):List (List T):=match M[x]? with
 | some ts=>M.set x (ts.set i v)
 | none=>M
theorem jYv {M:List (List T)} {x i:Nat} {v:T} (h:cl M x i=some v):∃ts,M[x]? =some ts/\ts[i]? =some v:=by
 unfold cl at h
 cases e1:M[x]? with
 | none=>rw[e1] at h;cases h
 | some ts=>rw[e1] at h;exact⟨ts,rfl,h⟩
theorem jYw {M:List (List T)} {x i:Nat} {ts:List T} (h1:M[x]? =some ts):cl M x i=ts[i]? :=by unfold cl;rw[h1];rfl
theorem kKs {M:List (List T)} {x i:Nat} {v u:T} (h:cl M x i=some u) (x' i':Nat):cl (put M x i v) x' i'=if x'=x/\i'=i then some v else cl M x' i':=by
 obtain⟨ts,h1,h2⟩:=jYv h
 have hx:=(List.getElem?_eq_some_iff.mp h1).1
 have hi:=(List.getElem?_eq_some_iff.mp h2).1
 unfold put
 rw[h1]
 show cl (M.set x (ts.set i v)) x' i'=_
 by_cases hxx:x'=x
 ·subst hxx
  rw[jYw (List.getElem?_set_self hx),jYw h1]
  by_cases hii:i'=i
  ·subst hii;rw[List.getElem?_set_self hi,if_pos ⟨rfl,rfl⟩]
  ·rw[List.getElem?_set_ne (fun z=>hii z.symm),if_neg (fun z=>hii z.2)]
 ·rw[if_neg (fun z=>hxx z.1)]
  unfold cl
  rw[List.getElem?_set_ne (fun z=>hxx z.symm)]
structure SInv (W:Web) (m:Nat) (Ts:List (List Nat)) (M:List (List T)):Prop where
 len:M.length=m*W.length
 row:∀(x:Nat) (ts:List T),M[x]? =some ts->∃es,W[x%W.length]? =some es/\ts.length=es.length
 val:∀x i v,cl M x i=some v->v= .non\/∃y j,Bel W Ts x i y j/\v=encE (y,j)
def Fl (M:List (List T)) (x i:Nat):Prop:=∃e,cl M x i=some (encE e)
theorem SInv.at {W:Web} {m:Nat} {Ts:List (List Nat)} {M:List (List T)} {r i k:Nat} {e:Nat×Nat} (h:SInv W m Ts M) (hk:k<m) (he:en W r i=some e):∃ts,M[r+k*W.length]? =some ts/\i<ts.length:=by
 obtain⟨es,h1,h2⟩:=jJ5 he
 have hr:=jXu he
 have hx:r+k*W.length<M.length:=by
  rw[h.len]
  have:(k+1)*W.length<=m*W.length:=Nat.mul_le_mul_right _ hk
  rw[Nat.succ_mul] at this;omega
 have hM:M[r+k*W.length]? =some M[r+k*W.length]:=List.getElem?_eq_getElem hx
 obtain⟨es',q1,q2⟩:=h.row _ _ hM
 rw[Nat.add_mul_mod_self_right,Nat.mod_eq_of_lt hr,h1] at q1;cases q1
 exact⟨_,hM,by rw[q2];exact (List.getElem?_eq_some_iff.mp h2).1⟩
theorem SInv.put {W:Web} {m:Nat} {Ts:List (List Nat)} {M:List (List T)} {x i y j:Nat} {ts:List T} (h:SInv W m Ts M) (hx:M[x]? =some ts) (hi:i<ts.length) (hb:Bel W Ts x i y j):
  SInv W m Ts (M.set x (ts.set i (encE (y,j))))/\Fl (M.set x (ts.set i (encE (y,j)))) x i/\∀x' i',Fl M x' i'->Fl (M.set x (ts.set i (encE (y,j)))) x' i':=by
 have hc:cl M x i=some ts[i]:=by rw[jYw hx];exact List.getElem?_eq_getElem hi
 have hp:M.set x (ts.set i (encE (y,j)))=_root_.W.put M x i (encE (y,j)):=by unfold _root_.W.put;rw[hx]
 have hxl:=(List.getElem?_eq_some_iff.mp hx).1
 refine⟨⟨by rw[List.length_set];exact h.len,fun x' ts' h'=> ?_,fun x' i' v hv=> ?_⟩,?_,fun x' i' ⟨e,he⟩=> ?_⟩
 ·by_cases hxx:x'=x
  ·subst hxx
   rw[List.getElem?_set_self hxl] at h';cases h'
   rw[List.length_set];exact h.row _ _ hx
  ·rw[List.getElem?_set_ne (fun z=>hxx z.symm)] at h';exact h.row _ _ h'
 ·rw[hp,kKs hc] at hv
  by_cases hxx:x'=x/\i'=i
  ·rw[if_pos hxx] at hv;cases hv
   obtain⟨rfl,rfl⟩:=hxx
   exact .inr ⟨y,j,hb,rfl⟩
  ·rw[if_neg hxx] at hv;exact h.val _ _ _ hv
 ·exact⟨(y,j),by rw[hp,kKs hc,if_pos ⟨rfl,rfl⟩]⟩
 ·by_cases hxx:x'=x/\i'=i
  ·exact⟨(y,j),by rw[hp,kKs hc,if_pos hxx]⟩
  ·exact⟨e,by rw[hp,kKs hc,if_neg hxx];exact he⟩
structure Sheet (W:Web) (m:Nat) (V:Web):Prop where
 len:V.length=m*W.length
 row:∀(x:Nat) (ts:List (Nat×Nat)),V[x]? =some ts->∃es,W[x%W.length]? =some es/\ts.length=es.length
 sym:Sym V
noncomputable def qJ9 (W:Web) (m:Nat) (Ts:List (List Nat)) (M:List (List T)) (d:Nat->Nat->Prop):Prop:=∀t k e f σ k',d t k->(jJu W)[t]? =some (e,f)->Ts[t]? =some σ->σ[k]? =some k'->Fl M (e.1+k*W.length) e.2/\Fl M (f.1+k'*W.length) f.2
def dec:T->Nat×Nat
 | .tup [.int a,.int b]=>(a.toNat,b.toNat)
 | _=>(0,0)
theorem jUj {e:Nat×Nat}:dec (encE e)=e:=by obtain⟨a,b⟩:=e;simp[encE,dec]
theorem kV4 {W:Web} {m:Nat} {Ts:List (List Nat)} {M:List (List T)} (hs:Sym W) (ok:TurnsOk W m Ts) (h:SInv W m Ts M) (hd:qJ9 W m Ts M fun t k=>t<(jJu W).length/\k<m):Sheet W m (M.map (List.map dec))/\M=(M.map (List.map dec)).map (List.map encE):=by
 have full:∀x i v,cl M x i=some v->Fl M x i:=by
  intro x i v hv
  obtain⟨ts,h1,h2⟩:=jYv hv
  obtain⟨es,q1,q2⟩:=h.row _ _ h1
  have hx:x<m*W.length:=by rw[<-h.len];exact (List.getElem?_eq_some_iff.mp h1).1
  have hi:i<es.length:=by rw[<-q2];exact (List.getElem?_eq_some_iff.mp h2).1
  have hW:0<W.length:=by rcases Nat.eq_zero_or_pos W.length with z | z;rw[z] at hx;omega;exact z
  have hk:x / W.length<m:=Nat.div_lt_of_lt_mul (by rw[Nat.mul_comm];exact hx)
  have hxe:x%W.length+x / W.length*W.length=x:=by rw[Nat.mul_comm];exact Nat.mod_add_div x W.length
  have he:=jQ1 q1 (List.getElem?_eq_getElem hi)
  generalize es[i]=e at he
  obtain⟨s,j⟩:=e
  by_cases hle:leE (x%W.length,i) (s,j)=true
  ·obtain⟨t,ht⟩:=List.getElem?_of_mem (endsL_mem (x:=((x%W.length,i),(s,j))).mpr ⟨he,hle⟩)
   have htl:=(List.getElem?_eq_some_iff.mp ht).1
   have htT:t<Ts.length:=by rw[ok.len];exact htl
   have hσ:Ts[t]? =some Ts[t]:=List.getElem?_eq_getElem htT
   obtain⟨k',hk',_⟩:=(ok.ok _ _ _ ht hσ).1.at hk
   have:=(hd t _ _ _ _ _ ⟨htl,hk⟩ ht hσ hk').1
   simp only at this
   rw[hxe] at this;exact this
  ·have hle2:leE (s,j) (x%W.length,i)=true:=by
    rw[leE_iff] at hle ⊢; simp only at hle ⊢; omega
   obtain⟨t,ht⟩:=List.getElem?_of_mem (endsL_mem (x:=((s,j),(x%W.length,i))).mpr ⟨hs _ _ _ _ he,hle2⟩)
   have htl:=(List.getElem?_eq_some_iff.mp ht).1
   have htT:t<Ts.length:=by rw[ok.len];exact htl
   have hσ:Ts[t]? =some Ts[t]:=List.getElem?_eq_getElem htT
   obtain⟨k0,hk0,hk1⟩:=(ok.ok _ _ _ ht hσ).1.onto hk
   have:=(hd t _ _ _ _ _ ⟨htl,hk0⟩ ht hσ hk1).2
   simp only at this
   rw[hxe] at this;exact this
 have enM:∀x i e,en (M.map (List.map dec)) x i=some e->cl M x i=some (encE e)/\Bel W Ts x i e.1 e.2:=by
  intro x i e he
  obtain⟨es,h1,h2⟩:=jJ5 he
  rw[List.getElem?_map] at h1
  cases e1:M[x]? with
  | none=>rw[e1] at h1;cases h1
  | some ts=>
   rw[e1] at h1;cases h1
   rw[List.getElem?_map] at h2
   cases e2:ts[i]? with
   | none=>rw[e2] at h2;cases h2
   | some v=>
    rw[e2] at h2;cases h2
    have hc:cl M x i=some v:=by rw[jYw e1];exact e2
    obtain⟨e',he'⟩:=full x i v hc
    rw[hc] at he';cases he'
    rw[jUj]
    refine⟨hc,?_⟩
    rcases h.val _ _ _ hc with z | ⟨y,j,hb,z⟩
    ·cases z
    ·have:e'=(y,j):=by rw[<-jUj (e:=e'),z,jUj]
     rw[this];exact hb
 have toM:∀x i e,cl M x i=some (encE e)->en (M.map (List.map dec)) x i=some e:=by
  intro x i e he
  obtain⟨ts,h1,h2⟩:=jYv he
  exact jQ1 (es:=ts.map dec) (by simp[h1]) (by simp[h2,jUj])
 refine⟨⟨by rw[List.length_map];exact h.len,fun x ts hx=> ?_,fun x i y j he=> ?_⟩,?_⟩
 ·rw[List.getElem?_map] at hx
  cases e1:M[x]? with
  | none=>rw[e1] at hx;cases hx
  | some us=>
   rw[e1] at hx;cases hx
   rw[List.length_map];exact h.row _ _ e1
 ·obtain⟨h1,h2⟩:=enM x i (y,j) he
  have h3:Bel W Ts y j x i:=h2.symm
  have hin:∃v,cl M y j=some v:=by
   obtain⟨t,e,f,σ,k,k',q1,q2,q3,q4⟩:=h3
   obtain⟨z1,z2⟩:=jUx q1
   have z1:en W e.1 e.2=some (f.1,f.2):=z1
   have T1:=(ok.ok _ _ _ q1 q2).1
   have hk:k<m:=by rw[<-T1.len];exact (List.getElem?_eq_some_iff.mp q3).1
   have hk':k'<m:=T1.lt _ (List.mem_of_getElem? q3)
   rcases q4 with ⟨a1,a2,_,_⟩ | ⟨_,_,a1,a2⟩
   ·obtain⟨ts,b1,b2⟩:=h.at hk z1
    exact⟨ts[e.2],by rw[a1,a2,jYw b1];exact List.getElem?_eq_getElem b2⟩
   ·obtain⟨ts,b1,b2⟩:=h.at hk' (hs _ _ _ _ z1)
    exact⟨ts[f.2],by rw[a1,a2,jYw b1];exact List.getElem?_eq_getElem b2⟩
  obtain⟨v,hv⟩:=hin
  obtain⟨e',he'⟩:=full y j v hv
  have h4:=toM y j e' he'
  obtain⟨_,h5⟩:=enM y j e' h4
  obtain⟨a1,a2⟩:=Bel.fn hs ok h3 h5
  rw[h4,<-show (e'.1,e'.2)=e' from rfl,<-a1,<-a2]
 ·rw[List.map_map]
  conv=>lhs;rw[<-List.map_id M]
  apply List.map_congr_left
  intro ts hts
  show ts=(ts.map dec).map encE
  rw[List.map_map]
  conv=>lhs;rw[<-List.map_id ts]
  apply List.map_congr_left
  intro v hv
  obtain⟨x,hx⟩:=List.getElem?_of_mem hts
  obtain⟨i,hi⟩:=List.getElem?_of_mem hv
  obtain⟨e,he⟩:=full x i v (by rw[jYw hx];exact hi)
  rw[jYw hx,hi] at he;cases he
  show encE e=encE (dec (encE e))
  rw[jUj]
noncomputable def RowsT (G:Gp) (h:Addr) (M:List (List T)) (rs:List Addr):Prop:=G h=some (.lst (rs.map T.ref))/\rs.length=M.length/\∀(i:Nat) (r:Addr),rs[i]? =some r->∃ts:List T,M[i]? =some ts/\G r=some (.lst ts)
theorem RowsT.set {G:Gp} {h:Addr} {M:List (List T)} {rs:List Addr} {r:Nat} {a:Addr} {ts:List T} (x:RowsT G h M rs) (hn:(h::rs).Nodup) (hr:rs[r]? =some a):RowsT (gup G a (.lst ts)) h (M.set r ts) rs:=by
 rw[List.nodup_cons] at hn
 have hrl:r<rs.length:=(List.getElem?_eq_some_iff.mp hr).1
 refine⟨by rw[jJn];exact x.1;rintro rfl;exact hn.1 (List.mem_of_getElem? hr),by rw[List.length_set];exact x.2.1,fun i c e=> ?_⟩
 by_cases hi:i=r
 ·subst hi
  rw[hr] at e;cases e
  exact⟨ts,by rw[List.getElem?_set_self];rw[<-x.2.1];exact hrl,jJh⟩
 ·obtain⟨us,h1,h2⟩:=x.2.2 i c e
  refine⟨us,by rw[List.getElem?_set_ne (Ne.symm hi)];exact h1,?_⟩
  rw[jJn];exact h2
  rintro rfl
  have hil:i<rs.length:=(List.getElem?_eq_some_iff.mp e).1
  exact hi ((List.getElem?_inj hil hn.2).mp (e.trans hr.symm))
theorem RowsT.get {G:Gp} {h:Addr} {M:List (List T)} {rs:List Addr} {x:Nat} {ts:List T} (R:RowsT G h M rs) (hx:M[x]? =some ts):∃a,rs[x]? =some a/\L2.atI (rs.map T.ref) (x:Int)=some (.ref a)/\G a=some (.lst ts):=by
 have hxl:x<rs.length:=by rw[R.2.1];exact (List.getElem?_eq_some_iff.mp hx).1
 have hr:rs[x]? =some rs[x]:=List.getElem?_eq_getElem hxl
 obtain⟨us,h1,h2⟩:=R.2.2 x _ hr
 rw[hx] at h1;cases h1
 exact⟨_,hr,by rw[atN,List.getElem?_map,hr];rfl,h2⟩
theorem kZy {n:Nat}:(List.replicate n [T.non]).flatten=List.replicate n T.non:=by
 induction n with
 | zero=>rfl
 | succ n ih=>rw[List.replicate_succ,List.flatten_cons,ih];rfl
def rowN (W:Web) (x:Nat):List T:=List.replicate ((W[x%W.length]?).getD []).length .non
theorem kK2 {W:Web} {m:Nat} {Ts:List (List Nat)}:SInv W m Ts ((List.range (m*W.length)).map (rowN W)) where
 len:=by simp
 row:=fun x ts h=>by
  rw[List.getElem?_map] at h
  cases e:(List.range (m*W.length))[x]? with
  | none=>rw[e] at h;cases h
  | some y=>
   rw[e] at h;cases h
   obtain⟨q1,q2⟩:=List.getElem?_eq_some_iff.mp e
   simp at q1 q2;subst q2
   have hW:0<W.length:=by rcases Nat.eq_zero_or_pos W.length with z | z;rw[z] at q1;omega;exact z
   have hx:x%W.length<W.length:=Nat.mod_lt _ hW
   exact⟨W[x%W.length],List.getElem?_eq_getElem hx,by simp[rowN,hx]⟩
 val:=fun x i v h=>by
  obtain⟨ts,h1,h2⟩:=jYv h
  rw[List.getElem?_map] at h1
  cases e:(List.range (m*W.length))[x]? with
  | none=>rw[e] at h1;cases h1
  | some y=>
   rw[e] at h1;cases h1
   have:=List.mem_of_getElem? h2
   unfold rowN at this
   exact .inl (List.mem_replicate.mp this).2
structure VT (W:Web) (m:Nat) (Ts:List (List Nat)) (V:Web):Prop where
 len:V.length=m*W.length
 row:∀(x:Nat) (es:List (Nat×Nat)),V[x]? =some es->∃ws,W[x%W.length]? =some ws/\es.length=ws.length
 val:∀x i y j,en V x i=some (y,j)->Bel W Ts x i y j
theorem vt_of {W:Web} {m:Nat} {Ts:List (List Nat)} {M:List (List T)} (sh:Sheet W m (M.map (List.map dec))) (eM:M=(M.map (List.map dec)).map (List.map encE)) (h:SInv W m Ts M):VT W m Ts (M.map (List.map dec)) where
 len:=sh.len
 row:=sh.row
 val:=fun x i y j he=>by
  obtain⟨es,h1,h2⟩:=jJ5 he
  have hM:M[x]? =some (es.map encE):=by rw[eM,List.getElem?_map,h1];rfl
  have hc:cl M x i=some (encE (y,j)):=by rw[jYw hM,List.getElem?_map,h2];rfl
  rcases h.val x i _ hc with z | ⟨y',j',hb,e⟩
  ·cases z
  ·have:=congrArg dec e
   rw[jUj,jUj] at this
   cases this;exact hb
theorem VT.eq {W:Web} {m:Nat} {Ts:List (List Nat)} {V V':Web} (h:VT W m Ts V) (hl:V'.length=V.length) (hr:∀(x:Nat) (es es':List (Nat×Nat)),V[x]? =some es->V'[x]? =some es'->es'.length=es.length) (hv:∀x i y j,Bel W Ts x i y j->en V x i=some (y,j)->en V' x i=some (y,j)):V'=V:=by
 apply List.ext_getElem?
 intro x
 by_cases hx:x<V.length
 ·have h1:V[x]? =some V[x]:=List.getElem?_eq_getElem hx
  have h2:V'[x]? =some V'[x]:=List.getElem?_eq_getElem (by omega)
  rw[h1,h2]
  congr 1
  have hle:=hr x _ _ h1 h2
  apply List.ext_getElem?
  intro i
  by_cases hi:i<(V[x]).length
  ·have h3:(V[x])[i]? =some (V[x])[i]:=List.getElem?_eq_getElem hi
   have e1:=jQ1 h1 h3
   have e2:=hv x i _ _ (h.val x i _ _ e1) e1
   obtain⟨es,q1,q2⟩:=jJ5 e2
   rw[h2] at q1;cases q1
   rw[q2,h3];rfl
  ·rw[List.getElem?_eq_none (by omega),List.getElem?_eq_none (by omega)]
 ·rw[List.getElem?_eq_none (by omega),List.getElem?_eq_none (by omega)]
noncomputable def jK4:Sp3:=fun xs G Q=>∃(W:Web) (tr:Addr) (m:Nat) (Ts:List (List Nat)),xs=[encW W,.ref tr,.int m]/\Fine W/\Sym W/\1<=W.length/\1<=m/\m*W.length<=1000/\TurnsOk W m Ts/\G tr=some (.lst (Ts.map fun σ=>T.tup (jJi σ)))/\∀V G',Sheet W m V->VT W m Ts V->Sub G G'->Q (encW V) G'
def kJ1:List Str:=["_law_web_here","_law_turns","_law_many","_law_made","_law_t","_law_one","_law_other","_law_k","_law_spot","_law_there","_law_n","_law_room"]
noncomputable def jQw:TS3:=
 (tSeq (tAsg (jKq [false,false,false,false,false,false,false,false,false,false,true,false] (jKb (jJc (tOp jQy (tVar 2) (tCB rLen (jJc (tVar 0) tNil))) tNil)) (jJg 10) jK2 (tOp jQy (tLst (jJc (tC .non) tNil)) (tCB rLen (jJc (tOp rIxF (tVar 0) (tOp rMod (tVar 10) (tCB rLen (jJc (tVar 0) tNil)))) tNil)))) (jJg 3))
 (tSeq (tFor (kJs (jJc (jJw jKz (jJc (tVar 0) tNil)) tNil)) (gTup 2 (jJx (jJg 4) (jJx (gTup 2 (jJx (jJg 5) (jJx (jJg 6) gNil))) gNil))) (tFor (jKb (jJc (tVar 2) tNil)) (jJg 7) (tSeq (tAsg (tOp jJz (tOp rIxF (tVar 5) (tC (.int 0))) (tOp jQy (tVar 7) (tCB rLen (jJc (tVar 0) tNil)))) (jJg 8))
 (tSeq (tAsg (tOp jJz (tOp rIxF (tVar 6) (tC (.int 0))) (tOp jQy (tOp rIxF (tOp rIxF (tVar 1) (tVar 4)) (tVar 7)) (tCB rLen (jJc (tVar 0) tNil)))) (jJg 9))
 (tSeq (tAsg (tTup (jJc (tVar 9) (jJc (tOp rIxF (tVar 6) (tC (.int 1))) tNil))) (gSub (tOp rIxF (tVar 3) (tVar 8)) (tOp rIxF (tVar 5) (tC (.int 1))) jQk))
 (tAsg (tTup (jJc (tVar 8) (jJc (tOp rIxF (tVar 5) (tC (.int 1))) tNil))) (gSub (tOp rIxF (tVar 3) (tVar 9)) (tOp rIxF (tVar 6) (tC (.int 1))) jQk)))))))
 (tRet (tCB jJ8 (jJc (jKq [false,false,false,false,false,false,false,false,false,false,false,true] (iSeq (tVar 3)) (jJg 11) jK2 (tCB jJ8 (jJc (tVar 11) tNil))) tNil)))))
theorem jXm:RdOk jK4 jQw kJ1:=by
 intro xs G Q h_;apply xe4 h_;clear h_;intro W tr m Ts h_;apply ae8 h_;clear h_;intro fine sym hW1 hm1 hmn ok htr kk
 show jQw _ [some (.tup (W.map encR)),some (.ref tr),some (.int m),none,none,none,none,none,none,none,none,none] G
 have hs:=sz
 have hl:=fine.len
 have hm2:m<=1000:=Nat.le_trans (Nat.le_mul_of_pos_right m hW1) hmn
 wp_walk using 1,jQw,jJv,jKb,kJs,iSeq,List.length_map
 have hcast:(m:Int)*(W.length:Int)=((m*W.length:Nat):Int):=by simp
 rw[hcast]
 refine⟨.inr ⟨by omega,by omega⟩,by omega,by omega,?_⟩
 rw[show ((m*W.length:Nat):Int).toNat=m*W.length by omega,jKj]
 refine jU8 (rowN W) (by simp;omega) (fun _ _=>trivial) ?_ ?_
 ·intro x x' hx G' K K0 s hk
  obtain⟨q1,q2⟩:=List.getElem?_eq_some_iff.mp hx
  simp at q1 q2;subst q2
  have hmod:x%W.length<W.length:=Nat.mod_lt _ hW1
  have hWx:W[x%W.length]? =some W[x%W.length]:=List.getElem?_eq_getElem hmod
  have hrow:rowN W x=List.replicate (W[x%W.length]).length .non:=by simp[rowN,hWx]
  rw[hrow] at hk
  generalize W[x%W.length]=es at hWx hk
  have hes:=fine.row _ _ hWx
  wp_walk using 1,List.length_map,show (x:Int)%(W.length:Int)=((x%W.length:Nat):Int) by simp,jXe hWx,encR
  refine⟨by omega,fun p hp=>⟨by omega,.newL (List.replicate es.length .non),?_,?_⟩⟩
  ·rw[<-kZy]
   simp only[mulR,jJh];rw[if_pos];congr;refine⟨?_,?_,?_⟩<;>simp<;>omega
  ·rw[kU7]
   intro q hq
   have hq0:=(jKk hq).2
   exact hk q _ hq0 jJh ((Sub.new hp).over hq0)
 ·intro D rs G1 hD hD1 s1 hrl hnd hrs
  rw[List.length_range] at hrl
  have hfr:∀r,r∈rs->G r=none:=by
   intro r z
   obtain⟨j,hj⟩:=List.getElem?_of_mem z
   have hjl:j<rs.length:=(List.getElem?_eq_some_iff.mp hj).1
   exact (hrs j r j hj (by rw[List.getElem?_range (by omega)])).1
  refine⟨W,rfl,fine,fun pe G2 hpe hG2 hlen s2=> ?_⟩
  have hpn:∀r,r∈rs->pe≠r:=by
   rintro r z rfl
   obtain⟨j,hj⟩:=List.getElem?_of_mem z
   have hjl:j<rs.length:=(List.getElem?_eq_some_iff.mp hj).1
   have:=(hrs j pe j hj (by rw[List.getElem?_range (by omega)])).2
   rw[this] at hpe;cases hpe
  refine⟨(jJu W).map encT,by simp only[jK0,hG2,asL],?_⟩
  let J1:Nat->St3->Gp->Prop:=fun t τ G'=>∃(v4 v5 v6 v7 v8 v9:Option T) (M:List (List T)),τ=[some (.tup (W.map encR)),some (.ref tr),some (.int m),some (.ref D),v4,v5,v6,v7,v8,v9,none,none]/\RowsT G' D M rs/\SInv W m Ts M/\qJ9 W m Ts M (fun t' k=>t'<t/\k<m)/\Sub G G'/\G' pe=some (.lst ((jJu W).map encT))
  refine⟨J1,?_,?_,?_,?_⟩
  ·refine xi7 none none none none none none ((List.range (m*W.length)).map (rowN W)) rfl ⟨⟨s2 _ _ hD1,by simp[hrl],fun i r hi=> ?_⟩,kK2,fun t k e f σ k' h=>absurd h.1 (Nat.not_lt_zero _),s1.trans s2,hG2⟩
   have hil:i<m*W.length:=by rw[<-hrl];exact (List.getElem?_eq_some_iff.mp hi).1
   exact⟨rowN W i,by simp[hil],s2 _ _ (hrs i r i hi (by simp[hil])).2⟩
  ·intro t τ G' ht h_;apply xe7 h_;clear h_;intro v4 v5 v6 v7 v8 v9 M h_;apply ae5 h_;clear h_;intro i1 i2 i3 i4 i5
   simp only[jK0,i5,asL]
  ·intro t x τ G3 hx h_;apply xe7 h_;clear h_;intro v4 v5 v6 v7 v8 v9 M h_;apply ae5 h_;clear h_;intro i1 i2 i3 i4 i5
   have ht:t<(jJu W).length:=by have:=(List.getElem?_eq_some_iff.mp hx).1;simpa[jQ7] using this
   have hte:(jJu W)[t]? =some (jJu W)[t]:=List.getElem?_eq_getElem ht
   rw[jQ8 (x:=encT (jJu W)[t]) (by simp[ht])] at hx
   cases hx
   generalize (jJu W)[t]=x at hte
   obtain⟨e,f⟩:=x
   have htT:t<Ts.length:=by rw[ok.len];exact ht
   have hσ:Ts[t]? =some Ts[t]:=List.getElem?_eq_getElem htT
   generalize Ts[t]=σ at hσ
   obtain⟨T1,T2⟩:=ok.ok _ _ _ hte hσ
   have hef:en W e.1 e.2=some (f.1,f.2):=(jUx hte).1
   have hfe:=sym _ _ _ _ hef
   wp_walk using 1,jJv,jKb,encT
   refine⟨by omega,by omega,?_⟩
   rw[show ((m:Int)).toNat=m by omega]
   let J2:Nat->St3->Gp->Prop:=fun k τ G'=>∃(v7 v8 v9:Option T) (M:List (List T)),τ=[some (.tup (W.map encR)),some (.ref tr),some (.int m),some (.ref D),some (.int t),some (encE e),some (encE f),v7,v8,v9,none,none]/\RowsT G' D M rs/\SInv W m Ts M/\qJ9 W m Ts M (fun t' k'=>(t'<t/\k'<m)\/(t'=t/\k'<k))/\Sub G G'/\G' pe=some (.lst ((jJu W).map encT))
   refine⟨J2,?_,?_,?_,?_⟩
   ·refine xi4 v7 v8 v9 M rfl ⟨i1,i2,fun t' k e f σ k' h=> ?_,i4,i5⟩
    rcases h with h | h
    ·exact i3 t' k e f σ k' h
    ·exact absurd h.2 (Nat.not_lt_zero _)
   ·intros;trivial
   ·intro k x τ G4 hx h_;apply xe4 h_;clear h_;intro v7 v8 v9 M h_;apply ae5 h_;clear h_;intro i1 i2 i3 i4 i5
    obtain⟨hk,rfl⟩:=jQv hx
    obtain⟨k',hk',hkm⟩:=T1.at hk
    have hb1:Bel W Ts (e.1+k*W.length) e.2 (f.1+k'*W.length) f.2:=⟨t,e,f,σ,k,k',hte,hσ,hk',.inl ⟨rfl,rfl,rfl,rfl⟩⟩
    obtain⟨ts,m1,m2⟩:=i2.at hk hef
    obtain⟨a,a1,a2,a3⟩:=i1.get m1
    have ham:=List.mem_of_getElem? a1
    obtain⟨p1,p2,p3⟩:=i2.put m1 m2 hb1
    have q1:=i1.set (ts:=ts.set e.2 (encE (f.1+k'*W.length,f.2))) hnd a1
    obtain⟨us,m3,m4⟩:=p1.at hkm hfe
    obtain⟨c,c1,c2,c3⟩:=q1.get m3
    have hcm:=List.mem_of_getElem? c1
    obtain⟨p4,p5,p6⟩:=p1.put m3 m4 hb1.symm
    have q2:=q1.set (ts:=us.set f.2 (encE (e.1+k*W.length,e.2))) hnd c1
    have g2:L2.atI (Ts.map fun σ=>T.tup (jJi σ)) (t:Int)=some (.tup (jJi σ)):=by rw[atN];simp[hσ]
    have g3:L2.atI (jJi σ) (k:Int)=some (.int (k':Nat)):=by rw[atN];simp[jJi,hk']
    have b1:e.1+k*W.length<m*W.length:=by rw[<-i2.len];exact (List.getElem?_eq_some_iff.mp m1).1
    have b2:f.1+k'*W.length<m*W.length:=by rw[<-p1.len];exact (List.getElem?_eq_some_iff.mp m3).1
    have s8:(e.1:Int)+(k:Int)*(W.length:Int)=((e.1+k*W.length:Nat):Int):=by simp
    have s9:(f.1:Int)+(k':Int)*(W.length:Int)=((f.1+k'*W.length:Nat):Int):=by simp
    wp_walk using 1,encE,List.length_map,jKd (i4 _ _ htr),g2,g3,s8,s9,jKd i1.1,a2,jQ5 a3 (jXs m2)
    refine⟨.inr ⟨by omega,by omega⟩,.inr ⟨by omega,by omega⟩,by omega,by omega,.ref c,(jKd q1.1).trans c2,_,jQ5 c3 (jXs m4),xi4 _ _ _ _ rfl ⟨q2,p4,?_,(i4.over (hfr a ham)).over (hfr c hcm),?_⟩⟩
    ·intro t' k0 e' f' σ' k1 h g4 g5 g6
     by_cases hh:t'=t/\k0=k
     ·obtain⟨rfl,rfl⟩:=hh
      rw[hte] at g4;cases g4
      rw[hσ] at g5;cases g5
      rw[hk'] at g6;cases g6
      exact⟨p6 _ _ p2,p5⟩
     ·obtain⟨z1,z2⟩:=i3 t' k0 e' f' σ' k1 (by omega) g4 g5 g6
      exact⟨p6 _ _ (p3 _ _ z1),p6 _ _ (p3 _ _ z2)⟩
    ·rw[jJn (hpn c hcm),jJn (hpn a ham)];exact i5
   ·intro τ G' h_;apply xe4 h_;clear h_;intro v7 v8 v9 M h_;apply ae5 h_;clear h_;intro i1 i2 i3 i4 i5
    rw[jK6] at i3
    refine xi7 _ _ _ _ _ _ M rfl ⟨i1,i2,fun t' k e f σ k' h=>i3 t' k e f σ k' ?_,i4,i5⟩
    by_cases hh:t'=t
    ·exact .inr ⟨hh,h.2⟩
    ·exact .inl ⟨by omega,h.2⟩
  ·intro τ G3 h_;apply xe7 h_;clear h_;intro v4 v5 v6 v7 v8 v9 M h_;apply ae5 h_;clear h_;intro i1 i2 i3 i4 i5
   rw[jQ7,List.length_map] at i3
   obtain⟨sh,eM⟩:=kV4 sym ok i2 i3
   wp_walk using 1,iSeq,jJk i1.1
   refine jKl (es:=rs) (fun r=>T.tup (match G3 r with | some (.lst ts)=>ts | _=>[])) (by omega) (fun G' s=>jJk (s _ _ i1.1)) ?_ ?_
   ·intro i r hr G4 K K0 s hk
    obtain⟨ts,z1,z2⟩:=i1.2.2 i r hr
    wp_walk using 1,jJk (s _ _ z2)
    have:=hk G4 (.refl _)
    rw[z2] at this
    exact this
   ·intro E G4 hE h4 s4
    refine⟨_,jJk h4,?_⟩
    have e1:rs.map (fun r=>T.tup (match G3 r with | some (.lst ts)=>ts | _=>[]))=(M.map (List.map dec)).map encR:=by
     have e2:(M.map (List.map dec)).map encR=M.map T.tup:=by
      conv=>rhs;rw[eM]
      rw[List.map_map,List.map_map,List.map_map];rfl
     rw[e2]
     apply List.ext_getElem?
     intro i
     by_cases hi:i<rs.length
     ·have hri:rs[i]? =some rs[i]:=List.getElem?_eq_getElem hi
      obtain⟨ts,z1,z2⟩:=i1.2.2 i _ hri
      rw[List.getElem?_map,List.getElem?_map,hri,z1]
      simp only[Option.map_some,z2]
     ·rw[List.getElem?_eq_none (by rw[List.length_map];omega),List.getElem?_eq_none (by rw[List.length_map,<-i1.2.1];omega)]
    rw[e1]
    exact kk _ G4 sh (vt_of sh eM i2) (i4.trans s4)
theorem Sheet.fine {W V:Web} {m:Nat} (h:Sheet W m V) (f:Fine W) (hm:m*W.length<=1000):Fine V where
 len:=by rw[h.len];exact hm
 row:=fun x ts hx=>by obtain⟨es,h1,h2⟩:=h.row x ts hx;rw[h2];exact f.row _ _ h1
 rng:=fun r i s j he=>jXu (h.sym _ _ _ _ he)
theorem kJt {G:Gp} {e f:Nat×Nat}:eqG G (encE e) (encE f)=some (decide (e=f)):=by
 obtain⟨a,b⟩:=e;obtain⟨c,d⟩:=f
 rw[show eqG G (encE (a,b)) (encE (c,d))=some (eqT (encE (a,b)) (encE (c,d))) from rfl]
 congr 1
 simp only[encE,eqT,eqTs,Bool.and_true]
 by_cases h1:a=c
 ·by_cases h2:b=d
  ·simp[h1,h2]
  ·have:¬ (b:Int)=d:=by omega
   simp[h1,h2,this]
 ·have:¬ (a:Int)=c:=by omega
  simp[h1,this]
theorem jYs {G:Gp} {a c:Nat}:eqG G (.int a) (.int c)=some (decide (a=c)):=by
 rw[show eqG G (.int a) (.int c)=some (eqT (.int a) (.int c)) from rfl]
 congr 1
 simp only[eqT]
 by_cases h1:a=c
 ·simp[h1]
 ·have:¬ (a:Int)=c:=by omega
  simp[h1,this]
structure AnyWeb (W:Web):Prop where
 pos:1<=W.length
 len:W.length<=24
 sym:Sym W
 deg:∀(r:Nat) (es:List (Nat×Nat)),W[r]? =some es->es.length<=6
 conn:Conn W
theorem WebOk.any {n d:Nat} {W:Web} (h:WebOk n d W) (h1:1<=n) (h2:n<=24) (h3:d<=6):AnyWeb W:=⟨by rw[h.len];exact h1,by rw[h.len];exact h2,h.sym,fun r es hr=>Nat.le_trans (h.deg r es hr) h3,h.conn⟩
theorem AnyWeb.fine {W:Web} (h:AnyWeb W):Fine W:=⟨by have:=h.len;omega,fun r es hr=>by have:=h.deg r es hr;omega,fun r i s j he=>jXu (h.sym _ _ _ _ he)⟩
theorem kKl {α β:Type} {f:α->List β} {d:Nat}:∀ {l:List α},(∀a,a∈l->(f a).length<=d)->(l.flatMap f).length<=l.length*d
 | [],_=>by simp
 | a::l,h=>by
  rw[List.flatMap_cons,List.length_append,List.length_cons,Nat.succ_mul]
  have h1:=h a (List.mem_cons_self)
  have h2:=kKl (l:=l) fun x hx=>h x (List.mem_cons_of_mem _ hx)
  omega
theorem kYi {W:Web} {d:Nat} (h:∀(r:Nat) (es:List (Nat×Nat)),W[r]? =some es->es.length<=d):(jJu W).length<=W.length*d:=by
 have:=kKl (f:=rowE W) (d:=d) (l:=List.range W.length) fun r hr=>by
  unfold rowE
  split
  ·rename_i es hes
   have h1:=List.length_filterMap_le (jQm r es) (List.range es.length)
   rw[List.length_range] at h1
   have h2:=h r es hes
   omega
  ·simp
 rwa [List.length_range] at this
theorem jZx {kvs:List (L2.Key×T)} {k:L2.Key}:(valT kvs k).isSome=true↔k∈kvs.map Prod.fst:=by
 unfold valT
 rw[Option.isSome_map,List.find?_isSome,List.mem_map]
 exact⟨fun ⟨a,h1,h2⟩=>⟨a,h1,by simpa using h2⟩,fun ⟨a,h1,h2⟩=>⟨a,h1,by simpa using h2⟩⟩
def keyN (x:Nat):L2.Key:= .inl (x:Nat)
theorem kKg {F:List Nat} {x:Nat}:keyN x∈F.map keyN↔x∈F:=by
 rw[List.mem_map]
 refine⟨fun ⟨a,ha,e⟩=> ?_,fun h=>⟨x,h,rfl⟩⟩
 have e1:(Sum.inl (a:Int):L2.Key)=Sum.inl (x:Int):=e
 have:(a:Int)=x:=by injection e1
 have:a=x:=by omega
 exact this▸ha
theorem qJl {G:Gp} {d:Addr} {kvs:List (L2.Key×T)} {F:List Nat} {x:Nat} (h:G d=some (.dck kvs)) (hk:kvs.map Prod.fst=F.map keyN):inR G (.int (x:Nat)) (.ref d)=some (decide (x∈F)):=by
 have e1:seqT G (.ref d)=none:=by simp only[seqT,h];rfl
 have e2:dAt G (.ref d) (.int (x:Nat))=some (valT kvs (keyN x)):=by simp only[dAt,h,jV7];rfl
 unfold inR
 simp only[e1,e2]
 congr 1
 rw[Bool.eq_iff_iff,jZx,hk,kKg];simp
theorem kXk {kvs:List (L2.Key×T)} {k:L2.Key} {v:T} (h:k∉kvs.map Prod.fst):putT kvs k v=kvs++[(k,v)]:=by
 unfold putT
 rw[if_neg]
 rw[List.any_eq_true]
 rintro⟨a,ha,e⟩
 exact h (List.mem_map.mpr ⟨a,ha,by simpa using e⟩)
theorem kV8 {G:Gp} {d:Addr} {kvs:List (L2.Key×T)} {x:Nat} {v:T} (h:G d=some (.dck kvs)) (hz:kvs.length<sizeLine):setR G (.ref d) (.int (x:Nat)) v=some (gup G d (.dck (putT kvs (keyN x) v))):=by
 simp only[setR,h,jV7]
 rw[if_pos hz];rfl
theorem kJj {xs:List T} {j:Nat} {y:T} (h:(numT xs)[j]? =some y):∃x,xs[j]? =some x/\y= .tup [.int j,x]:=by
 have hj:j<xs.length:=by have:=(List.getElem?_eq_some_iff.mp h).1;rwa [jJ0] at this
 refine⟨xs[j],List.getElem?_eq_getElem hj,?_⟩
 rw[jQ8 (List.getElem?_eq_getElem hj)] at h
 cases h;rfl
theorem kV3 {G G':Gp} (h:Sub G G') {p:Addr} (hp:G' p=none):G p=none:=by
 cases e:G p with
 | none=>rfl
 | some o=>rw[h _ _ e] at hp;cases hp
theorem vis_sub {F:List Nat} {es:List (Nat×Nat)}:(∃E,vis F es=F++E)/\(∀e,e∈es->e.1∈vis F es)/\(∀x,x∈vis F es->x∈F\/∃e,e∈es/\e.1=x)/\(F.Nodup->(vis F es).Nodup):=by
 induction es generalizing F with
 | nil=>exact⟨⟨[],by simp[vis]⟩,by simp,fun x h=> .inl h,fun h=>h⟩
 | cons e es ih=>
  have hv:vis F (e::es)=vis (if F.contains e.1=true then F else F++[e.1]) es:=rfl
  rw[hv]
  by_cases h:F.contains e.1=true
  ·rw[if_pos h]
   obtain⟨⟨E,i1⟩,i2,i3,i4⟩:=ih (F:=F)
   refine⟨⟨E,i1⟩,fun d hd=> ?_,fun x hx=> ?_,i4⟩
   ·rcases (List.mem_cons.mp hd) with rfl | hde
    ·rw[i1];exact List.mem_append_left _ (by simpa using h)
    ·exact i2 d hde
   ·rcases i3 x hx with h | ⟨d,hd,e⟩
    ·exact .inl h
    ·exact .inr ⟨d,List.mem_cons_of_mem _ hd,e⟩
  ·rw[if_neg h]
   obtain⟨⟨E,i1⟩,i2,i3,i4⟩:=ih (F:=F++[e.1])
   refine⟨⟨e.1::E,by rw[i1];simp⟩,fun d hd=> ?_,fun x hx=> ?_,fun hn=>i4 ?_⟩
   ·rcases (List.mem_cons.mp hd) with rfl | hde
    ·rw[i1];exact List.mem_append_left _ (by simp)
    ·exact i2 d hde
   ·rcases i3 x hx with h | ⟨d,hd,e'⟩
    ·rcases (List.mem_append.mp h) with h | hs
     ·exact .inl h
     ·exact .inr ⟨e,List.mem_cons_self ..,(List.mem_singleton.mp hs).symm⟩
    ·exact .inr ⟨d,List.mem_cons_of_mem _ hd,e'⟩
   ·rw[List.nodup_append]
    exact⟨hn,by simp,fun a ha b hb=>by rw[List.mem_singleton] at hb;subst hb;rintro rfl;exact h (by simpa using ha)⟩
structure Bfs (W:Web) (k:Nat) (F:List Nat):Prop where
 nd:F.Nodup
 lt:∀x,x∈F->x<W.length
 near:∀(i x:Nat) (e:Nat×Nat),i<k->F[i]? =some x->e∈row W x->e.1∈F
theorem kZw {W:Web} {x:Nat} {e:Nat×Nat} (h:e∈row W x):∃i,en W x i=some e:=by
 unfold row at h
 cases hW:W[x]? with
 | none=>rw[hW] at h;simp at h
 | some es=>
  rw[hW] at h
  obtain⟨i,hi⟩:=List.getElem?_of_mem (show e∈es from h)
  exact⟨i,jQ1 hW hi⟩
theorem Bfs.step {W:Web} (f:Fine W) {k r:Nat} {F:List Nat} (h:Bfs W k F) (hr:F[k]? =some r):Bfs W (k+1) (vis F (row W r)):=by
 obtain⟨⟨E,e1⟩,e2,e3,e4⟩:=vis_sub (F:=F) (es:=row W r)
 refine⟨e4 h.nd,fun x hx=> ?_,fun i x e hi hx he=> ?_⟩
 ·rcases e3 x hx with hx | ⟨e,he,rfl⟩
  ·exact h.lt x hx
  ·obtain⟨i,hi⟩:=kZw he
   exact f.rng _ _ e.1 e.2 hi
 ·have hkl:k<F.length:=(List.getElem?_eq_some_iff.mp hr).1
  have hx':F[i]? =some x:=by rw[e1,List.getElem?_append_left (by omega)] at hx;exact hx
  rcases Nat.lt_or_eq_of_le (Nat.le_of_lt_succ hi) with h1 | rfl
  ·rw[e1];exact List.mem_append_left _ (h.near i x e h1 hx' he)
  ·rw[hr] at hx';cases hx';exact e2 e he
theorem Bfs.run {W:Web} (f:Fine W):∀(n k:Nat) (F:List Nat),Bfs W k F->W.length<=n+k->k<=F.length->(∃E,bfsN W n k F=F++E)/\Bfs W (bfsN W n k F).length (bfsN W n k F)
 | 0,k,F,h,hl,hk=>by
  have hF:=jK8 h.nd h.lt
  have:k=F.length:=by omega
  subst this
  exact⟨⟨[],by simp[bfsN]⟩,h⟩
 | n+1,k,F,h,hl,hk=>by
  rcases Nat.lt_or_ge k F.length with hlt | hge
  ·have hr:F[k]? =some F[k]:=List.getElem?_eq_getElem hlt
   rw[jXi hr]
   obtain⟨⟨E,e1⟩,e2,e3,e4⟩:=vis_sub (F:=F) (es:=row W F[k])
   obtain⟨⟨E',h1⟩,h2⟩:=Bfs.run f n (k+1) _ (h.step f hr) (by omega) (by rw[e1,List.length_append];omega)
   exact⟨⟨E++E',by rw[h1,e1,List.append_assoc]⟩,h2⟩
  ·have:k=F.length:=by omega
   subst this
   rw[jXj (Nat.le_refl _)]
   exact⟨⟨[],by simp⟩,h⟩
theorem kZj {W:Web} (f:Fine W) {r:Nat} (hr:r<W.length):(∃E,bfs W r=r::E)/\Bfs W (bfs W r).length (bfs W r):=
 Bfs.run f W.length 0 [r] ⟨by simp,by simpa using hr,fun i x e hi=>absurd hi (Nat.not_lt_zero _)⟩ (by omega) (by simp)
theorem vis_lt {W:Web} (f:Fine W) {F:List Nat} {x:Nat} {es:List (Nat×Nat)} (hx:W[x]? =some es) (hF:∀y,y∈F->y<W.length) (j:Nat):∀y,y∈vis F (es.take j)->y<W.length:=by
 intro y hy
 rcases (vis_sub (F:=F) (es:=es.take j)).2.2.1 y hy with h | ⟨e,he,rfl⟩
 ·exact hF y h
 ·obtain⟨i,hi⟩:=List.getElem?_of_mem (List.mem_of_mem_take he)
  exact f.rng x i e.1 e.2 (jQ1 hx hi)
noncomputable def jKr:Sp3:=fun xs G Q=>∃(W:Web) (r0:Nat),xs=[encW W,.int r0]/\Fine W/\r0<W.length/\∀d G' kvs,G d=none->G' d=some (.dck kvs)->kvs.map Prod.fst=(bfs W r0).map keyN->Sub G G'->Q (.ref d) G'
def jXk:List Str:=["web","room","comings","level","further","here","door","end"]
noncomputable def jKt:TS3:=
 (tSeq (tAsg (kQx (tVar 1) (tC .non)) (jJg 2))
 (tSeq (tAsg (tLst (jJc (tVar 1) tNil)) (jJg 3))
 (tSeq (jY3 (tTru rTru (tVar 3)) (tSeq (tAsg (tLst tNil) (jJg 4))
 (tSeq (tFor (iSeq (tVar 3)) (jJg 5) (tFor (iEnT (jJc (tOp rIxF (tVar 0) (tVar 5)) tNil)) (gTup 2 (jJx (jJg 6) (jJx (jJg 7) gNil))) (tIfS (jKa (tOp jQ6 (tOp rIxF (tVar 7) (tC (.int 0))) (tVar 2))) (tSeq (tAsg (tTup (jJc (tVar 5) (jJc (tVar 6) tNil))) (gSub (tVar 2) (tOp rIxF (tVar 7) (tC (.int 0))) jQk))
 (jUk (tBM "list" jKf (tVar 4) (jJc (tOp rIxF (tVar 7) (tC (.int 0))) tNil)))) jQt)))
 (tAsg (tVar 4) (jJg 3)))))
 (tRet (tVar 2)))))
theorem jUr:RdOk jKr jKt jXk:=by
 intro xs G Q h_;apply xe2 h_;clear h_;intro W r0 h_;apply ae3 h_;clear h_;intro fine hr0 kk
 show jKt _ [some (.tup (W.map encR)),some (.int r0),none,none,none,none,none,none] G
 have hs:=sz
 have hl:=fine.len
 wp_walk using 1,jKt,jY3,jJv,kQx,iSeq,iEnT
 intro d hd
 refine⟨keyN r0,rfl,by omega,fun l hl0=> ?_⟩
 have hdl:d≠l:=jJe (jJh (G:=G) (a:=d) (o:= .dck [(keyN r0,T.non)])) hl0
 refine⟨fun m τ G'=>∃(a:Nat) (l:Addr) (v4 v5 v6 v7:Option T) (F:List Nat) (kvs:List (L2.Key×T)),τ=[some (.tup (W.map encR)),some (.int r0),some (.ref d),some (.ref l),v4,v5,v6,v7]/\d≠l/\G l=none/\G' d=some (.dck kvs)/\kvs.map Prod.fst=F.map keyN/\G' l=some (.lst (jJi (F.drop a)))/\a<=F.length/\Bfs W a F/\bfs W r0=bfsN W (W.length-a) a F/\Sub G G'/\m=W.length-a,?_,?_⟩
 ·refine⟨_,0,l,none,none,none,none,[r0],[(keyN r0,T.non)],rfl,hdl,?_,?_,rfl,jJh,Nat.zero_le _,⟨by simp,by simpa using hr0,fun i x e hi=>absurd hi (Nat.not_lt_zero _)⟩,rfl,(Sub.new hd).trans (.new hl0),rfl⟩
  ·rw[jJn hdl.symm] at hl0;exact hl0
  ·rw[jJn hdl];exact jJh
 intro m τ G1 h_;apply xe8 h_;clear h_;intro a l v4 v5 v6 v7 F kvs h_;apply ae10 h_;clear h_;intro hdl hl0 h1 hk h2 haF hB hb hs1 e9_
 subst e9_
 have hFl:=jK8 hB.nd hB.lt
 wp_walk using 1,h2
 split
 ·rename_i hne
  have haF':a<F.length:=by
   rcases Nat.lt_or_ge a F.length with z | z
   ·exact z
   ·rw[List.drop_of_length_le z] at hne;simp[jJi] at hne
  refine⟨fun τ' G'=>∃(l':Addr) (v4 v5 v6 v7:Option T) (F':List Nat) (kvs':List (L2.Key×T)),τ'=[some (.tup (W.map encR)),some (.int r0),some (.ref d),some (.ref l'),v4,v5,v6,v7]/\d≠l'/\G l'=none/\G' d=some (.dck kvs')/\kvs'.map Prod.fst=F'.map keyN/\G' l'=some (.lst (jJi (F'.drop F.length)))/\F.length<=F'.length/\Bfs W F.length F'/\bfs W r0=bfsN W (W.length-F.length) F.length F'/\Sub G G',?_,by omega,fun p hp=> ?_⟩
  ·intro τ' G' h_;apply xe7 h_;clear h_;intro l' v4 v5 v6 v7 F' kvs' h_;apply ae9 h_;clear h_;intro i1 i2 i3 i4 i5 i6 i7 i8 i9
   exact⟨W.length-F.length,by omega,F.length,l',v4,v5,v6,v7,rfl,i1,i2,F',kvs',i3,i4,i5,i6,i7,i8,i9,rfl⟩
  ·have hpd:d≠p:=jJe h1 hp
   have hpl:l≠p:=jJe h2 hp
   have hp0:=kV3 hs1 hp
   refine⟨jJi (F.drop a),jJk (by rw[jJn hpl];exact h2),?_⟩
   refine⟨fun i τ G'=>∃(v5 v6 v7:Option T) (F':List Nat) (kvs':List (L2.Key×T)),τ=[some (.tup (W.map encR)),some (.int r0),some (.ref d),some (.ref l),some (.ref p),v5,v6,v7]/\G' d=some (.dck kvs')/\kvs'.map Prod.fst=F'.map keyN/\G' l=some (.lst (jJi (F.drop a)))/\G' p=some (.lst (jJi (F'.drop F.length)))/\(∃E,F'=F++E)/\Bfs W (a+i) F'/\bfs W r0=bfsN W (W.length-(a+i)) (a+i) F'/\Sub G G',?_,?_,?_,?_⟩
   ·exact⟨v5,v6,v7,F,kvs,rfl,by rw[jJn hpd];exact h1,hk,by rw[jJn hpl];exact h2,by rw[List.drop_length];exact jJh,⟨[],by simp⟩,hB,hb,hs1.trans (.new hp)⟩
   ·intro i τ G' hi h_;apply xe5 h_;clear h_;intro v5 v6 v7 F' kvs' h_;apply ae8 h_;clear h_;intro j1 jk j2 j3 jE jB jb js
    exact jJk j2
   ·intro i y τ G2 hy h_;apply xe5 h_;clear h_;intro v5 v6 v7 F' kvs' h_;apply ae8 h_;clear h_;intro j1 jk j2 j3 q4_ jB jb js
    obtain⟨E,jE⟩:=q4_
    obtain⟨x,hx,rfl⟩:=jJ3 hy
    rw[List.getElem?_drop] at hx
    have hai:a+i<F.length:=(List.getElem?_eq_some_iff.mp hx).1
    have hx':F'[a+i]? =some x:=by rw[jE,List.getElem?_append_left hai];exact hx
    have hxW:=jB.lt x (List.mem_of_getElem? hx')
    have hW:W[x]? =some W[x]:=List.getElem?_eq_getElem hxW
    generalize W[x]=es at hW
    wp_walk using 1,iEnT,jXe hW,encR,jJv
    refine⟨fun j τ G'=>∃(v6 v7:Option T) (F2:List Nat) (kvs2:List (L2.Key×T)),τ=[some (.tup (W.map encR)),some (.int r0),some (.ref d),some (.ref l),some (.ref p),some (.int x),v6,v7]/\G' d=some (.dck kvs2)/\kvs2.map Prod.fst=F2.map keyN/\G' l=some (.lst (jJi (F.drop a)))/\G' p=some (.lst (jJi (F2.drop F.length)))/\F2=vis F' (es.take j)/\Sub G G',?_,?_,?_,?_⟩
    ·exact⟨v6,v7,F',kvs',rfl,j1,jk,j2,j3,rfl,js⟩
    ·intros;trivial
    ·intro j y τ G3 hy h_;apply xe4 h_;clear h_;intro v6 v7 F2 kvs2 h_;apply ae6 h_;clear h_;intro q1 qk q2 q3 q4 q5
     obtain⟨z,hz,rfl⟩:=kJj hy
     obtain⟨e,he,rfl⟩:=jJ3 hz
     have hF2n:F2.Nodup:=by rw[q4];exact vis_sub.2.2.2 jB.nd
     have hF2l:∀y,y∈F2->y<W.length:=by rw[q4];exact vis_lt fine hW jB.lt j
     have hF2:=jK8 hF2n hF2l
     have hkl:kvs2.length=F2.length:=by have:=congrArg List.length qk;simpa using this
     have hFF:F.length<=F2.length:=by
      obtain⟨⟨E',e1⟩,_⟩:=vis_sub (F:=F') (es:=es.take j)
      rw[q4,e1,jE];simp only[List.length_append];omega
     wp_walk using 1,encE,jQ6,qJl q1 qk
     by_cases hm:e.1∈F2
     ·rw[if_neg (by simp[hm])]
      exact⟨F2,kvs2,q1,qk,q2,q3,by rw[jVg he,<-q4,if_pos (by simpa using hm)],q5⟩
     ·rw[if_pos (by simp[hm])]
      wp_walk using 1,kV8 q1 (show kvs2.length<sizeLine by omega)
      have hgp:gup G3 d (.dck (putT kvs2 (keyN e.1) (.tup [.int x,.int j]))) p=some (.lst (jJi (F2.drop F.length))):=by rw[jJn hpd.symm];exact q3
      refine⟨by omega,by rw[jKo hgp];trivial,_,hgp,by simp[jJi];omega,F2++[e.1],kvs2++[(keyN e.1,.tup [.int x,.int j])],?_,?_,?_,?_,?_,?_⟩
      ·rw[jJn hpd,jJh,kXk (by rw[qk,kKg];exact hm)]
      ·rw[List.map_append,List.map_append,qk];rfl
      ·rw[jJn hpl,jJn hdl.symm];exact q2
      ·rw[List.drop_append_of_le_length hFF];simp[jJi]
      ·rw[jVg he,<-q4,if_neg (by simpa using hm)]
      ·exact (q5.over hd).over hp0
    ·intro τ G3 h_;apply xe4 h_;clear h_;intro v6 v7 F2 kvs2 h_;apply ae6 h_;clear h_;intro q1 qk q2 q3 q4 q5
     rw[jJ0,List.length_map,List.take_length] at q4
     obtain⟨⟨E',e1⟩,_⟩:=vis_sub (F:=F') (es:=es)
     refine⟨_,_,_,rfl,F2,kvs2,q1,qk,q2,q3,⟨E++E',by rw[q4,e1,jE,List.append_assoc]⟩,?_,?_,q5⟩
     ·have:=jB.step fine hx'
      rw[kQ5 hW,<-q4] at this
      exact this
     ·rw[jb,show W.length-(a+i)=W.length-(a+(i+1))+1 by omega,jXi hx',kQ5 hW,<-q4];rfl
   ·intro τ G2 h_;apply xe5 h_;clear h_;intro v5 v6 v7 F' kvs' h_;apply ae8 h_;clear h_;intro j1 jk j2 j3 q4_ jB jb js
    obtain⟨E,jE⟩:=q4_
    have hlen:(jJi (F.drop a)).length=F.length-a:=by simp[jJi]
    rw[hlen,show a+(F.length-a)=F.length by omega] at jB jb
    wp_walk using 1,tSeq
    exact⟨hpd,hp0,F',kvs',j1,jk,j3,by rw[jE,List.length_append];omega,jB,jb,js⟩
 ·rename_i hne
  have he:F.length<=a:=by
   have:jJi (F.drop a)=[]:=by simpa using hne
   have:=congrArg List.length this
   simp[jJi] at this;omega
  rw[jXj he] at hb
  exact kk d G1 kvs hd h1 (by rw[hk,hb]) hs1
def jYa:Sp3:=fun xs G Q=>∃W:Web,xs=[encW W]/\Fine W/\∀p G',G p=none->G' p=some (.lst ((jJu W).map encT))->(jJu W).length<=1000000->Sub G G'->Q (.ref p) G'
def N_ties:List Str:=["web","told","room","ends","door","end"]
noncomputable def kJe:TS3:=
 (tSeq (tAsg (tLst tNil) (jJg 1))
 (tSeq (tFor (iEnT (jJc (tVar 0) tNil)) (gTup 2 (jJx (jJg 2) (jJx (jJg 3) gNil))) (tFor (iEnT (jJc (tVar 3) tNil)) (gTup 2 (jJx (jJg 4) (jJx (jJg 5) gNil))) (tIfS (jKa (tOp rLeF (tTup (jJc (tVar 2) (jJc (tVar 4) tNil))) (tVar 5))) (jUk (tBM "list" jKf (tVar 1) (jJc (tTup (jJc (tTup (jJc (tVar 2) (jJc (tVar 4) tNil))) (jJc (tVar 5) tNil))) tNil))) jQt)))
 (tRet (tVar 1))))
theorem kQ8:RdOk jYa kJe N_ties:=by
 intro xs G Q h_;apply xe1 h_;clear h_;intro W h_;apply ae2 h_;clear h_;intro fine kk
 show kJe _ [some (.tup (W.map encR)),none,none,none,none,none] G
 have hs:=sz
 have hl:=fine.len
 wp_walk using 1,kJe,jJv,iEnT
 refine⟨Nat.zero_le _,fun p hp=> ?_⟩
 let J1:Nat->St3->Gp->Prop:=fun k τ G'=>∃(v2 v3 v4 v5:Option T),τ=[some (.tup (W.map encR)),some (.ref p),v2,v3,v4,v5]/\G' p=some (.lst (((List.range k).flatMap (rowE W)).map encT))/\((List.range k).flatMap (rowE W)).length<=1000*k/\Sub G G'
 refine⟨J1,?_,?_,?_,?_⟩
 ·exact xi4 _ _ _ _ rfl ⟨jJh,Nat.zero_le _,.new hp⟩
 ·intros;trivial
 ·intro k x τ G1 hx h_;apply xe4 h_;clear h_;intro v2 v3 v4 v5 h_;apply ae3 h_;clear h_;intro h1 h2 h3
  obtain⟨z,hz,rfl⟩:=kJj hx
  obtain⟨es,hW,rfl⟩:=jJ3 hz
  have hk:k<W.length:=(List.getElem?_eq_some_iff.mp hW).1
  have hes:=fine.row k es hW
  wp_walk using 1,jJv,iEnT,encR
  let J2:Nat->St3->Gp->Prop:=fun i τ G'=>∃(v4 v5:Option T),τ=[some (.tup (W.map encR)),some (.ref p),some (.int k),some (.tup (es.map encE)),v4,v5]/\G' p=some (.lst (((List.range k).flatMap (rowE W)++(List.range i).filterMap (jQm k es)).map encT))/\((List.range k).flatMap (rowE W)++(List.range i).filterMap (jQm k es)).length<=1000*k+i/\Sub G G'
  refine⟨J2,?_,?_,?_,?_⟩
  ·exact xi2 _ _ rfl ⟨by simpa using h1,by simpa using h2,h3⟩
  ·intros;trivial
  ·intro i x τ G2 hx h_;apply xe2 h_;clear h_;intro v4 v5 h_;apply ae3 h_;clear h_;intro i1 i2 i3
   obtain⟨z,hz,rfl⟩:=kJj hx
   obtain⟨e,hE,rfl⟩:=jJ3 hz
   have hi:i<es.length:=(List.getElem?_eq_some_iff.mp hE).1
   wp_walk using 1,rLeF,encE,jKo i1,i1
   refine⟨by omega,?_⟩
   have hle:HT.lexLe [(k:Int),(i:Int)] [(e.1:Int),(e.2:Int)]=leE (k,i) e:=rfl
   rw[hle]
   by_cases hc:leE (k,i) e=true
   ·have hcell:jQm k es i=some ((k,i),e):=by unfold jQm;rw[hE];show (if _ then _ else _)=_;rw[if_pos hc]
    rw[if_pos hc]
    refine⟨by omega,by omega,by rw[List.length_map];omega,xi2 _ _ rfl ⟨?_,?_,i3.over hp⟩⟩
    ·rw[jJh,List.range_succ,List.filterMap_append];simp[hcell,encT,encE]
    ·rw[List.range_succ,List.filterMap_append,List.length_append,List.length_append]
     rw[List.length_append] at i2
     simp[hcell] at i2 ⊢; omega
   ·have hcell:jQm k es i=none:=by unfold jQm;rw[hE];show (if _ then _ else _)=_;rw[if_neg hc]
    rw[if_neg hc]
    refine xi2 _ _ rfl ⟨?_,?_,i3⟩
    ·rw[List.range_succ,List.filterMap_append];simp[hcell];simpa using i1
    ·rw[List.range_succ,List.filterMap_append];simp[hcell];simp at i2;omega
  ·intro τ G' h_;apply xe2 h_;clear h_;intro v4 v5 h_;apply ae3 h_;clear h_;intro i1 i2 i3
   rw[jQ7,List.length_map] at i1 i2
   have e1:(List.range (k+1)).flatMap (rowE W)=(List.range k).flatMap (rowE W)++(List.range es.length).filterMap (jQm k es):=by
    rw[List.range_succ,List.flatMap_append]
    congr 1
    simp[rowE,hW]
   exact xi4 _ _ _ _ rfl ⟨by rw[e1];exact i1,by rw[e1];omega,i3⟩
 ·intro τ G1 h_;apply xe4 h_;clear h_;intro v2 v3 v4 v5 h_;apply ae3 h_;clear h_;intro h1 h2 h3
  rw[jQ7,List.length_map] at h1 h2
  wp_walk using 1,tSeq
  exact kk p G1 hp h1 (by show ((List.range W.length).flatMap (rowE W)).length<=_;omega) h3
def ownB (σ:List Nat) (r:Nat):Bool:=decide (σ[(σ[r]?).getD 0]? =some r)
theorem kZz {m:Nat} {σ:List Nat} (h:Turn m σ):(List.range m).all (ownB σ)=true↔Invol σ:=by
 rw[List.all_eq_true]
 constructor
 ·intro q k x hx
  have hk:k<m:=by rw[<-h.len];exact (List.getElem?_eq_some_iff.mp hx).1
  have:=of_decide_eq_true (q k (List.mem_range.mpr hk))
  rw[hx] at this;exact this
 ·intro q k hk
  obtain⟨x,hx,_⟩:=h.at (List.mem_range.mp hk)
  unfold ownB;rw[hx];exact decide_eq_true (q k x hx)
def jKi:Sp3:=fun xs G Q=>∃(σ:List Nat) (m:Nat),xs=[.tup (jJi σ)]/\Turn m σ/\m<=1000/\∀(b:Bool) G',(b=true↔Invol σ)->Sub G G'->Q (.bl b) G'
def jY0:List Str:=["turn","sheet"]
noncomputable def jQd:TS3:=
 (tRet (tCB rAll (jJc (jKq [false,true] (jKb (jJc (tCB rLen (jJc (tVar 0) tNil)) tNil)) (jJg 1) jK2 (tOp rEqA (tOp rIxF (tVar 0) (tOp rIxF (tVar 0) (tVar 1))) (tVar 1))) tNil)))
theorem jVd:RdOk jKi jQd jY0:=by
 intro xs G Q h_;apply xe2 h_;clear h_;intro σ m h_;apply ae3 h_;clear h_;intro T1 hm kk
 show jQd _ [some (.tup (jJi σ)),none] G
 have hs:=sz
 have hl:(jJi σ).length=m:=by rw[jJi,List.length_map];exact T1.len
 wp_walk using 1,jQd,jKb,rEqA,hl
 refine⟨by omega,by omega,?_⟩
 rw[show ((m:Nat):Int).toNat=m by omega,jKj]
 refine jKl (es:=List.range m) (enc:=fun r:Nat=>T.int r) (fun r=>T.bl (ownB σ r)) (by simp;omega) (fun _ _=>trivial) ?_ ?_
 ·intro i r hr G1 K K0 s1 hK
  obtain⟨q1,q2⟩:=List.getElem?_eq_some_iff.mp hr
  simp at q1 q2;subst q2
  obtain⟨x,hx,hxm⟩:=T1.at q1
  obtain⟨y,hy,_⟩:=T1.at hxm
  have a1:L2.atI (jJi σ) (i:Int)=some (.int (x:Nat)):=by rw[atN];simp[jJi,hx]
  have a2:L2.atI (jJi σ) (x:Int)=some (.int (y:Nat)):=by rw[atN];simp[jJi,hy]
  wp_walk using 1,rEqA,a1,a2
  refine⟨_,jYs,?_⟩
  have e:ownB σ i=decide (y=i):=by unfold ownB;rw[hx,Option.getD_some,hy];simp
  have:=hK G1 (.refl _)
  rw[e] at this
  exact this
 ·intro D G1 hD h1 s1
  refine⟨D,_,_,rfl,h1,jUw (f:=ownB σ),?_⟩
  exact kk _ G1 (kZz T1) s1
structure TB (W:Web) (m:Nat) (Ts:List (List Nat)) (U:Web) (d:Nat->Nat->Prop):Prop where
 len:U.length=m*W.length
 row:∀(x:Nat) (ts:List (Nat×Nat)),U[x]? =some ts->∃es,W[x%W.length]? =some es/\ts.length=es.length
 dn:∀t k e f σ k',d t k->(jJu W)[t]? =some (e,f)->Ts[t]? =some σ->σ[k]? =some k'->en U (e.1+k*W.length) e.2=some (f.1+k'*W.length,f.2)/\en U (f.1+k'*W.length) f.2=some (e.1+k*W.length,e.2)
theorem TB.at {W:Web} {m:Nat} {Ts:List (List Nat)} {U:Web} {d:Nat->Nat->Prop} {r i k:Nat} {e:Nat×Nat} (h:TB W m Ts U d) (hk:k<m) (he:en W r i=some e):∃ts,U[r+k*W.length]? =some ts/\i<ts.length:=by
 obtain⟨es,h1,h2⟩:=jJ5 he
 have hr:=jXu he
 have hx:r+k*W.length<U.length:=by
  rw[h.len]
  have:(k+1)*W.length<=m*W.length:=Nat.mul_le_mul_right _ hk
  rw[Nat.succ_mul] at this;omega
 have hM:U[r+k*W.length]? =some U[r+k*W.length]:=List.getElem?_eq_getElem hx
 obtain⟨es',q1,q2⟩:=h.row _ _ hM
 rw[Nat.add_mul_mod_self_right,Nat.mod_eq_of_lt hr,h1] at q1;cases q1
 exact⟨_,hM,by rw[q2];exact (List.getElem?_eq_some_iff.mp h2).1⟩
theorem kZd {U:Web} {x i:Nat} {ts:List (Nat×Nat)} {v:Nat×Nat} (h:U[x]? =some ts) (hi:i<ts.length) (x' i':Nat):en (U.set x (ts.set i v)) x' i'=if x'=x/\i'=i then some v else en U x' i':=by
 have hxl:=(List.getElem?_eq_some_iff.mp h).1
 unfold en
 by_cases hx:x'=x
 ·subst hx
  rw[List.getElem?_set_self hxl,h,Option.bind_some,Option.bind_some]
  by_cases hi':i'=i
  ·subst hi';rw[if_pos ⟨rfl,rfl⟩,List.getElem?_set_self hi]
  ·rw[if_neg fun z=>hi' z.2,List.getElem?_set_ne (Ne.symm hi')]
 ·rw[if_neg fun z=>hx z.1,List.getElem?_set_ne (Ne.symm hx)]
theorem TB.put {W:Web} {m:Nat} {Ts:List (List Nat)} {U:Web} {d:Nat->Nat->Prop} {x i:Nat} {ts:List (Nat×Nat)} {v:Nat×Nat} (hs:Sym W) (ok:TurnsOk W m Ts) (h:TB W m Ts U d) (hx:U[x]? =some ts) (hi:i<ts.length) (hb:Bel W Ts x i v.1 v.2):
  TB W m Ts (U.set x (ts.set i v)) d/\en (U.set x (ts.set i v)) x i=some v/\∀x' i' v',Bel W Ts x' i' v'.1 v'.2->en U x' i'=some v'->en (U.set x (ts.set i v)) x' i'=some v':=by
 have keep:∀x' i' v',Bel W Ts x' i' v'.1 v'.2->en U x' i'=some v'->en (U.set x (ts.set i v)) x' i'=some v':=by
  intro x' i' v' hb' he
  rw[kZd hx hi]
  by_cases z:x'=x/\i'=i
  ·obtain⟨rfl,rfl⟩:=z
   obtain⟨q1,q2⟩:=hb.fn hs ok hb'
   rw[if_pos ⟨rfl,rfl⟩]
   congr 1;exact Prod.ext q1 q2
  ·rw[if_neg z];exact he
 have hxl:=(List.getElem?_eq_some_iff.mp hx).1
 refine⟨⟨by rw[List.length_set];exact h.len,fun x' ts' h'=> ?_,fun t k e f σ k' hd h1 h2 h3=> ?_⟩,by rw[kZd hx hi,if_pos ⟨rfl,rfl⟩],keep⟩
 ·by_cases hxx:x'=x
  ·subst hxx
   rw[List.getElem?_set_self hxl] at h';cases h'
   rw[List.length_set];exact h.row _ _ hx
  ·rw[List.getElem?_set_ne (fun z=>hxx z.symm)] at h';exact h.row _ _ h'
 ·obtain⟨q1,q2⟩:=h.dn t k e f σ k' hd h1 h2 h3
  have b1:Bel W Ts (e.1+k*W.length) e.2 (f.1+k'*W.length) f.2:=⟨t,e,f,σ,k,k',h1,h2,h3,.inl ⟨rfl,rfl,rfl,rfl⟩⟩
  exact⟨keep _ _ (f.1+k'*W.length,f.2) b1 q1,keep _ _ (e.1+k*W.length,e.2) b1.symm q2⟩
theorem kY1 {W:Web}:∀(m x:Nat),x<m*W.length->(List.replicate m W).flatten[x]? =W[x%W.length]?
 | 0,x,h=>by rw[Nat.zero_mul] at h;exact absurd h (Nat.not_lt_zero _)
 | m+1,x,h=>by
  rw[List.replicate_succ];rw[List.flatten_cons]
  by_cases hx:x<W.length
  ·rw[List.getElem?_append_left hx,Nat.mod_eq_of_lt hx]
  ·rw[List.getElem?_append_right (by omega),kY1 m (x-W.length) (by rw[Nat.succ_mul] at h;omega)]
   congr 1
   exact (Nat.mod_eq_sub_mod (by omega)).symm
theorem jZ5 {α:Type} {W:List α} {m:Nat}:(List.replicate m W).flatten.length=m*W.length:=by
 induction m with
 | zero=>simp
 | succ m ih=>rw[List.replicate_succ,List.flatten_cons,List.length_append,ih,Nat.succ_mul,Nat.add_comm]
theorem RowsAt.get {G:Gp} {h:Addr} {Hs:Web} {rs:List Addr} {x:Nat} {ts:List (Nat×Nat)} (R:RowsAt G h Hs rs) (hx:Hs[x]? =some ts):∃a,rs[x]? =some a/\L2.atI (rs.map T.ref) (x:Int)=some (.ref a)/\G a=some (.lst (ts.map encE)):=by
 have hxl:x<rs.length:=by rw[R.2.1];exact (List.getElem?_eq_some_iff.mp hx).1
 have hr:rs[x]? =some rs[x]:=List.getElem?_eq_getElem hxl
 obtain⟨us,h1,h2⟩:=R.2.2 x _ hr
 rw[hx] at h1;cases h1
 exact⟨_,hr,by rw[atN,List.getElem?_map,hr];rfl,h2⟩
theorem tie_of {W:Web} {x i y j:Nat} (hs:Sym W) (h:en W x i=some (y,j)):∃(t:Nat) (e f:Nat×Nat),(jJu W)[t]? =some (e,f)/\((e=(x,i)/\f=(y,j))\/(e=(y,j)/\f=(x,i))):=by
 by_cases hl:leE (x,i) (y,j)=true
 ·obtain⟨t,ht⟩:=List.getElem?_of_mem (endsL_mem.mpr ⟨h,hl⟩:((x,i),(y,j))∈jJu W)
  exact⟨t,_,_,ht,.inl ⟨rfl,rfl⟩⟩
 ·have h2:=hs _ _ _ _ h
  have hl2:leE (y,j) (x,i)=true:=by
   rw[leE_iff];rw[leE_iff] at hl;simp only at hl ⊢; omega
  obtain⟨t,ht⟩:=List.getElem?_of_mem (endsL_mem.mpr ⟨h2,hl2⟩:((y,j),(x,i))∈jJu W)
  exact⟨t,_,_,ht,.inr ⟨rfl,rfl⟩⟩
structure TurnsT (W:Web) (m:Nat) (Ts:List (List Nat)):Prop where
 len:Ts.length=(jJu W).length
 ok:∀(t:Nat) (σ:List Nat),Ts[t]? =some σ->Turn m σ
theorem bel_ex {W:Web} {m:Nat} {Ts:List (List Nat)} {x i:Nat} {es:List (Nat×Nat)} (hs:Sym W) (ok:TurnsOk W m Ts) (hx:x<m*W.length) (he:W[x%W.length]? =some es) (hi:i<es.length):∃v:Nat×Nat,Bel W Ts x i v.1 v.2:=by
 have hW:0<W.length:=by rcases Nat.eq_zero_or_pos W.length with z | z;rw[z] at hx;omega;exact z
 have hk:x / W.length<m:=Nat.div_lt_of_lt_mul (by rw[Nat.mul_comm];exact hx)
 have ex:x=x%W.length+x / W.length*W.length:=by have:=Nat.mod_add_div x W.length;rw[Nat.mul_comm] at this;exact this.symm
 generalize x%W.length=r at he ex
 generalize x / W.length=k at hk ex
 have h1:en W r i=some (es[i].1,es[i].2):=jQ1 he (List.getElem?_eq_getElem hi)
 obtain⟨t,e,f,ht,hh⟩:=tie_of hs h1
 have htl:t<Ts.length:=by rw[ok.len];exact (List.getElem?_eq_some_iff.mp ht).1
 have hσ:Ts[t]? =some Ts[t]:=List.getElem?_eq_getElem htl
 obtain⟨T1,_⟩:=ok.ok _ _ _ ht hσ
 rcases hh with ⟨rfl,rfl⟩ | ⟨rfl,rfl⟩
 ·obtain⟨k',q,_⟩:=T1.at hk
  exact⟨(es[i].1+k'*W.length,es[i].2),t,_,_,_,k,k',ht,hσ,q,.inl ⟨ex,rfl,rfl,rfl⟩⟩
 ·obtain⟨k',_,q⟩:=T1.onto hk
  exact⟨(es[i].1+k'*W.length,es[i].2),t,_,_,_,k',k,ht,hσ,q,.inr ⟨rfl,rfl,ex,rfl⟩⟩
theorem bel_in {W:Web} {m:Nat} {Ts:List (List Nat)} {x i y j:Nat} (hs:Sym W) (ok:TurnsOk W m Ts) (h:Bel W Ts x i y j):x<m*W.length/\∃es,W[x%W.length]? =some es/\i<es.length:=by
 obtain⟨t,e,f,σ,k,k',h1,h2,h3,h4⟩:=h
 have q:en W e.1 e.2=some (f.1,f.2):=(jUx h1).1
 have q':=hs _ _ _ _ q
 obtain⟨T1,_⟩:=ok.ok _ _ _ h1 h2
 have hk:k<m:=by rw[<-T1.len];exact (List.getElem?_eq_some_iff.mp h3).1
 have hk':k'<m:=T1.lt _ (List.mem_of_getElem? h3)
 have go:∀ {r i k:Nat} {g:Nat×Nat},k<m->en W r i=some g->r+k*W.length<m*W.length/\∃es,W[(r+k*W.length)%W.length]? =some es/\i<es.length:=by
  intro r i k g hk he
  obtain⟨es,a1,a2⟩:=jJ5 he
  have hr:=jXu he
  refine⟨?_,es,by rw[Nat.add_mul_mod_self_right,Nat.mod_eq_of_lt hr];exact a1,(List.getElem?_eq_some_iff.mp a2).1⟩
  have:(k+1)*W.length<=m*W.length:=Nat.mul_le_mul_right _ hk
  rw[Nat.succ_mul] at this;omega
 rcases h4 with ⟨rfl,rfl,rfl,rfl⟩ | ⟨rfl,rfl,rfl,rfl⟩
 ·exact go hk q
 ·exact go hk' q'
open Classical in
def pk (W:Web) (Ts:List (List Nat)) (x i:Nat):Nat×Nat:=if h:∃v:Nat×Nat,Bel W Ts x i v.1 v.2 then choose h else (0,0)
theorem pk_bel {W:Web} {Ts:List (List Nat)} {x i:Nat} (h:∃v:Nat×Nat,Bel W Ts x i v.1 v.2):Bel W Ts x i (pk W Ts x i).1 (pk W Ts x i).2:=by
 unfold pk;rw[dif_pos h];exact Classical.choose_spec h
def webT (W:Web) (m:Nat) (Ts:List (List Nat)):Web:=(List.range (m*W.length)).map fun x=>(List.range ((W[x%W.length]?).getD []).length).map (pk W Ts x)
theorem jX5 {W:Web} {m:Nat} {Ts:List (List Nat)} {x:Nat} {es:List (Nat×Nat)} (hx:x<m*W.length) (he:W[x%W.length]? =some es):(webT W m Ts)[x]? =some ((List.range es.length).map (pk W Ts x)):=by
 unfold webT
 rw[List.getElem?_map,List.getElem?_range hx,Option.map_some,he];rfl
theorem kZl {W:Web} {m:Nat} {Ts:List (List Nat)} {x i y j:Nat} (h:en (webT W m Ts) x i=some (y,j)):∃es,x<m*W.length/\W[x%W.length]? =some es/\i<es.length/\(y,j)=pk W Ts x i:=by
 obtain⟨ts,h1,h2⟩:=jJ5 h
 have hx:x<m*W.length:=by have:=(List.getElem?_eq_some_iff.mp h1).1;simpa[webT] using this
 have hW:0<W.length:=by rcases Nat.eq_zero_or_pos W.length with z | z;rw[z] at hx;omega;exact z
 obtain⟨es,he⟩:∃es,W[x%W.length]? =some es:=⟨_,List.getElem?_eq_getElem (Nat.mod_lt _ hW)⟩
 rw[jX5 hx he] at h1;cases h1
 have hi:i<es.length:=by have:=(List.getElem?_eq_some_iff.mp h2).1;simpa using this
 refine⟨_,hx,he,hi,?_⟩
 rw[List.getElem?_map,List.getElem?_range hi] at h2
 exact (Option.some.inj h2).symm
theorem vt_ex {W:Web} {m:Nat} {Ts:List (List Nat)} (hs:Sym W) (ok:TurnsOk W m Ts):∃V,VT W m Ts V/\Sheet W m V:=by
 have row:∀(x:Nat) (es:List (Nat×Nat)),(webT W m Ts)[x]? =some es->∃ws,W[x%W.length]? =some ws/\es.length=ws.length:=by
  intro x es h
  have hx:x<m*W.length:=by have:=(List.getElem?_eq_some_iff.mp h).1;simpa[webT] using this
  have hW:0<W.length:=by rcases Nat.eq_zero_or_pos W.length with z | z;rw[z] at hx;omega;exact z
  obtain⟨ws,he⟩:∃ws,W[x%W.length]? =some ws:=⟨_,List.getElem?_eq_getElem (Nat.mod_lt _ hW)⟩
  rw[jX5 hx he] at h;cases h
  exact⟨_,he,by simp⟩
 have val:∀x i y j,en (webT W m Ts) x i=some (y,j)->Bel W Ts x i y j:=by
  intro x i y j h
  obtain⟨es,a1,a2,a3,a4⟩:=kZl h
  have:=pk_bel (bel_ex hs ok a1 a2 a3)
  rw[<-a4] at this;exact this
 refine⟨webT W m Ts,⟨by simp[webT],row,val⟩,⟨by simp[webT],row,fun x i y j h=> ?_⟩⟩
 have hb:=(val x i y j h).symm
 obtain⟨b1,es,b2,b3⟩:=bel_in hs ok hb
 have h2:en (webT W m Ts) y j=some ((pk W Ts y j).1,(pk W Ts y j).2):=jQ1 (jX5 b1 b2) (by rw[List.getElem?_map,List.getElem?_range b3];rfl)
 obtain⟨q1,q2⟩:=hb.fn hs ok (val _ _ _ _ h2)
 rw[h2,<-q1,<-q2]
theorem VT.uniq {W:Web} {m:Nat} {Ts:List (List Nat)} {V V':Web} (hs:Sym W) (ok:TurnsOk W m Ts) (h:VT W m Ts V) (h':VT W m Ts V'):V'=V:=by
 have hr:∀(x:Nat) (es es':List (Nat×Nat)),V[x]? =some es->V'[x]? =some es'->es'.length=es.length:=fun x es es' h1 h2=>by
  obtain⟨ws,q1,q2⟩:=h.row _ _ h1
  obtain⟨ws',q3,q4⟩:=h'.row _ _ h2
  rw[q1] at q3;cases q3;omega
 have hl:V'.length=V.length:=by rw[h.len,h'.len]
 refine h.eq hl hr fun x i y j hb he=> ?_
 obtain⟨es,a1,a2⟩:=jJ5 he
 have hx:x<V'.length:=by rw[hl];exact (List.getElem?_eq_some_iff.mp a1).1
 have a3:V'[x]? =some V'[x]:=List.getElem?_eq_getElem hx
 have hi:i<(V'[x]).length:=by rw[hr x _ _ a1 a3];exact (List.getElem?_eq_some_iff.mp a2).1
 have a4:en V' x i=some ((V'[x])[i].1,(V'[x])[i].2):=jQ1 a3 (List.getElem?_eq_getElem hi)
 obtain⟨q1,q2⟩:=hb.fn hs ok (h'.val _ _ _ _ a4)
 rw[a4,<-q1,<-q2]
open Classical in
def mend (m:Nat) (z:Tie×List Nat):List Nat:=if z.1.1=z.1.2/\¬ Invol z.2 then List.range m else z.2
def kJo (W:Web) (m:Nat) (Ts:List (List Nat)):List (List Nat):=((jJu W).zip Ts).map (mend m)
theorem range_turn {m:Nat}:Turn m (List.range m)/\Invol (List.range m):=by
 refine⟨⟨List.length_range,List.nodup_range,fun x hx=>List.mem_range.mp hx⟩,fun k x hk=> ?_⟩
 obtain⟨q1,q2⟩:=List.getElem?_eq_some_iff.mp hk
 simp at q1 q2;subst q2;exact hk
theorem jYo {W:Web} {m t:Nat} {Ts:List (List Nat)} {x:Tie} {σ:List Nat} (h1:(jJu W)[t]? =some x) (h2:Ts[t]? =some σ):(kJo W m Ts)[t]? =some (mend m (x,σ)):=by
 unfold kJo
 have h:((jJu W).zip Ts)[t]? =some (x,σ):=List.getElem?_zip_eq_some.mpr ⟨h1,h2⟩
 rw[List.getElem?_map,h];rfl
theorem kKb {W:Web} {m:Nat} {Ts:List (List Nat)} (ok:TurnsT W m Ts):TurnsOk W m (kJo W m Ts) where
 len:=by unfold kJo;rw[List.length_map,List.length_zip,ok.len,Nat.min_self]
 ok:=fun t x σ h1 h2=>by
  have htl:t<Ts.length:=by rw[ok.len];exact (List.getElem?_eq_some_iff.mp h1).1
  have hσ:Ts[t]? =some Ts[t]:=List.getElem?_eq_getElem htl
  rw[jYo h1 hσ] at h2;cases h2
  unfold mend
  split
  ·exact⟨range_turn.1,fun _=>range_turn.2⟩
  ·rename_i hc
   exact⟨ok.ok t _ hσ,fun z=>Classical.byContradiction fun w=>hc ⟨z,w⟩⟩
theorem kKc {W:Web} {m:Nat} {Ts:List (List Nat)} (ok:TurnsT W m Ts) (h:∀(t:Nat) (x:Tie) (σ:List Nat),(jJu W)[t]? =some x->Ts[t]? =some σ->x.1=x.2->Invol σ):kJo W m Ts=Ts/\TurnsOk W m Ts:=by
 refine⟨?_,⟨ok.len,fun t x σ h1 h2=>⟨ok.ok t σ h2,h t x σ h1 h2⟩⟩⟩
 apply List.ext_getElem?
 intro t
 by_cases ht:t<Ts.length
 ·have h1:(jJu W)[t]? =some ((jJu W)[t]'(by rw[<-ok.len];exact ht)):=List.getElem?_eq_getElem _
  have h2:Ts[t]? =some Ts[t]:=List.getElem?_eq_getElem ht
  rw[jYo h1 h2,h2]
  unfold mend
  rw[if_neg fun z=>z.2 (h t _ _ h1 h2 z.1)]
 ·rw[List.getElem?_eq_none (by rw[(kKb ok).len,<-ok.len];omega),List.getElem?_eq_none (by omega)]
def kVt:List Str:=["web","many","turns","rooms","tie","turn","one","other","sheet","near","far","ends"]
noncomputable def jU0 (R:XK3):TS3:=
 (tSeq (tAsg (jKq [false,false,false,false,false,false,false,false,false,false,false,true] (iSeq (tOp jZa (tVar 0) (tVar 1))) (jJg 11) jK2 (tCB jV2 (jJc (tVar 11) tNil))) (jJg 3))
 (tSeq (tFor (kJr (jJc (jJw jYa (jJc (tVar 0) tNil)) (jJc (tVar 2) tNil))) (gTup 2 (jJx (jJg 4) (jJx (jJg 5) gNil))) (tSeq (tAsg (tOp rIxF (tVar 4) (tC (.int 0))) (jJg 6))
 (tSeq (tAsg (tOp rIxF (tVar 4) (tC (.int 1))) (jJg 7))
 (tSeq (tIfS (tAnd (jKa (tOp rEqA (tVar 6) (tVar 7))) (tNot (jKa (jJw jKi (jJc (tVar 5) tNil))))) (jUy R "NoWeb") jQt)
 (tFor (jKb (jJc (tVar 1) tNil)) (jJg 8) (tSeq (tAsg (tOp jJz (tOp rIxF (tVar 6) (tC (.int 0))) (tOp jZa (tVar 8) (tCB rLen (jJc (tVar 0) tNil)))) (jJg 9))
 (tSeq (tAsg (tOp jJz (tOp rIxF (tVar 7) (tC (.int 0))) (tOp jZa (tOp rIxF (tVar 5) (tVar 8)) (tCB rLen (jJc (tVar 0) tNil)))) (jJg 10))
 (tSeq (tAsg (tTup (jJc (tVar 10) (jJc (tOp rIxF (tVar 7) (tC (.int 1))) tNil))) (gSub (tOp rIxF (tVar 3) (tVar 9)) (tOp rIxF (tVar 6) (tC (.int 1))) jQk))
 (tAsg (tTup (jJc (tVar 9) (jJc (tOp rIxF (tVar 6) (tC (.int 1))) tNil))) (gSub (tOp rIxF (tVar 3) (tVar 10)) (tOp rIxF (tVar 7) (tC (.int 1))) jQk))))))))))
 (tRet (tCB jJ8 (jJc (jKq [false,false,false,false,false,false,false,false,false,false,false,true] (iSeq (tVar 3)) (jJg 11) jK2 (tCB jJ8 (jJc (tVar 11) tNil))) tNil)))))
noncomputable def jVm:TS3:=(tFor (jKb (jJc (tVar 1) tNil)) (jJg 8) (tSeq (tAsg (tOp jJz (tOp rIxF (tVar 6) (tC (.int 0))) (tOp jZa (tVar 8) (tCB rLen (jJc (tVar 0) tNil)))) (jJg 9))
 (tSeq (tAsg (tOp jJz (tOp rIxF (tVar 7) (tC (.int 0))) (tOp jZa (tOp rIxF (tVar 5) (tVar 8)) (tCB rLen (jJc (tVar 0) tNil)))) (jJg 10))
 (tSeq (tAsg (tTup (jJc (tVar 10) (jJc (tOp rIxF (tVar 7) (tC (.int 1))) tNil))) (gSub (tOp rIxF (tVar 3) (tVar 9)) (tOp rIxF (tVar 6) (tC (.int 1))) jQk))
 (tAsg (tTup (jJc (tVar 9) (jJc (tOp rIxF (tVar 6) (tC (.int 1))) tNil))) (gSub (tOp rIxF (tVar 3) (tVar 10)) (tOp rIxF (tVar 7) (tC (.int 1))) jQk))))))
noncomputable def jYf:TS3:=(tRet (tCB jJ8 (jJc (jKq [false,false,false,false,false,false,false,false,false,false,false,true] (iSeq (tVar 3)) (jJg 11) jK2 (tCB jJ8 (jJc (tVar 11) tNil))) tNil)))
theorem kK7 {R:XK3}:jU0 R=(tSeq (tAsg (jKq [false,false,false,false,false,false,false,false,false,false,false,true] (iSeq (tOp jZa (tVar 0) (tVar 1))) (jJg 11) jK2 (tCB jV2 (jJc (tVar 11) tNil))) (jJg 3))
 (tSeq (tFor (kJr (jJc (jJw jYa (jJc (tVar 0) tNil)) (jJc (tVar 2) tNil))) (gTup 2 (jJx (jJg 4) (jJx (jJg 5) gNil))) (tSeq (tAsg (tOp rIxF (tVar 4) (tC (.int 0))) (jJg 6))
 (tSeq (tAsg (tOp rIxF (tVar 4) (tC (.int 1))) (jJg 7))
 (tSeq (tIfS (tAnd (jKa (tOp rEqA (tVar 6) (tVar 7))) (tNot (jKa (jJw jKi (jJc (tVar 5) tNil))))) (jUy R "NoWeb") jQt)
 jVm))))
 jYf)):=rfl
theorem kY7 {i j:Int} {G:Gp} {Q:VK3} (h:L2.CMul i j) (q:Q (.int (i*j)) G):jZa (.int i) (.int j) G Q:= .inl ⟨.val (.int (i*j)),rfl,h,q⟩
theorem kZn {E:Ends3} {W U:Web} {m t:Nat} {Ts:List (List Nat)} {σ:List Nat} {e f:Nat×Nat} {D tr:Addr} {rs:List Addr} {v8 v9 v10:Option T} {v4:T} {G:Gp} (fine:Fine W) (sym:Sym W) (hm:m*W.length<=1000) (hW1:1<=W.length) (ok:TurnsOk W m Ts) (hte:(jJu W)[t]? =some (e,f)) (hσ:Ts[t]? =some σ) (tb:TB W m Ts U fun t' k=>t'<t/\k<m) (hR:RowsAt G D U rs) (hnd:(D::rs).Nodup)
  (kk:∀U' G' u8 u9 u10,TB W m Ts U' (fun t' k=>t'<t+1/\k<m)->RowsAt G' D U' rs->(∀a o,a∉rs->G a=some o->G' a=some o)->E.nx [some (.tup (W.map encR)),some (.int m),some (.ref tr),some (.ref D),some v4,some (.tup (jJi σ)),some (encE e),some (encE f),u8,u9,u10,none] G'):
  jVm E [some (.tup (W.map encR)),some (.int m),some (.ref tr),some (.ref D),some v4,some (.tup (jJi σ)),some (encE e),some (encE f),v8,v9,v10,none] G:=by
 have hs:=sz
 have hwl:=fine.len
 have hm2:m<=1000:=Nat.le_trans (Nat.le_mul_of_pos_right m hW1) hm
 obtain⟨T1,T2⟩:=ok.ok _ _ _ hte hσ
 have hef:en W e.1 e.2=some (f.1,f.2):=(jUx hte).1
 have hfe:=sym _ _ _ _ hef
 wp_walk using 1,jVm,jJv,jKb
 refine⟨by omega,by omega,?_⟩
 rw[show ((m:Int)).toNat=m by omega]
 let J1:Nat->St3->Gp->Prop:=fun k τ G'=>∃(v8 v9 v10:Option T) (U':Web),τ=[some (.tup (W.map encR)),some (.int m),some (.ref tr),some (.ref D),some v4,some (.tup (jJi σ)),some (encE e),some (encE f),v8,v9,v10,none]/\TB W m Ts U' (fun t' k'=>(t'<t/\k'<m)\/(t'=t/\k'<k))/\RowsAt G' D U' rs/\(∀a o,a∉rs->G a=some o->G' a=some o)
 refine⟨J1,?_,?_,?_,?_⟩
 ·exact xi4 _ _ _ U rfl ⟨⟨tb.len,tb.row,fun t' k e f σ k' h=>tb.dn t' k e f σ k' (h.elim id fun z=>absurd z.2 (Nat.not_lt_zero _))⟩,hR,fun _ _ _ h=>h⟩
 ·intros;trivial
 ·intro k x τ G2 hx h_;apply xe4 h_;clear h_;intro v8 v9 v10 U' h_;apply ae3 h_;clear h_;intro tb2 R2 g2
  obtain⟨hk,rfl⟩:=jQv hx
  obtain⟨k',hk',hkm⟩:=T1.at hk
  have hb1:Bel W Ts (e.1+k*W.length) e.2 (f.1+k'*W.length) f.2:=⟨t,e,f,σ,k,k',hte,hσ,hk',.inl ⟨rfl,rfl,rfl,rfl⟩⟩
  obtain⟨ts,m1,m2⟩:=tb2.at hk hef
  obtain⟨a,a1,a2,a3⟩:=R2.get m1
  obtain⟨p1,p2,p3⟩:=tb2.put (v:=(f.1+k'*W.length,f.2)) sym ok m1 m2 hb1
  have R3:=R2.set (hs':=ts.set e.2 (f.1+k'*W.length,f.2)) hnd a1
  obtain⟨us,m3,m4⟩:=p1.at hkm hfe
  obtain⟨c,c1,c2,c3⟩:=R3.get m3
  obtain⟨p4,p5,p6⟩:=p1.put (v:=(e.1+k*W.length,e.2)) sym ok m3 m4 hb1.symm
  have R4:=R3.set (hs':=us.set f.2 (e.1+k*W.length,e.2)) hnd c1
  have g3:L2.atI (jJi σ) (k:Int)=some (.int (k':Nat)):=by rw[atN];simp[jJi,hk']
  have b1:e.1+k*W.length<m*W.length:=by rw[<-tb2.len];exact (List.getElem?_eq_some_iff.mp m1).1
  have b2:f.1+k'*W.length<m*W.length:=by rw[<-p1.len];exact (List.getElem?_eq_some_iff.mp m3).1
  have s8:(e.1:Int)+(k:Int)*(W.length:Int)=((e.1+k*W.length:Nat):Int):=by simp
  have s9:(f.1:Int)+(k':Int)*(W.length:Int)=((f.1+k'*W.length:Nat):Int):=by simp
  wp_walk using 1,encE,List.length_map,g3
  refine kY7 (.inr ⟨by omega,by omega⟩) ?_
  wp_walk using 1,tSeq
  refine kY7 (.inr ⟨by omega,by omega⟩) ?_
  wp_walk using 1,s8,s9,jKd R2.1,a2
  have e1:(ts.map encE).set e.2 (T.tup [.int ((f.1+k'*W.length:Nat):Int),.int (f.2:Nat)])=(ts.set e.2 (f.1+k'*W.length,f.2)).map encE:=by rw[List.map_set];rfl
  have e2:(us.map encE).set f.2 (T.tup [.int ((e.1+k*W.length:Nat):Int),.int (e.2:Nat)])=(us.set f.2 (e.1+k*W.length,e.2)).map encE:=by rw[List.map_set];rfl
  refine⟨by omega,_,jQ5 a3 (jXs (by rw[List.length_map];exact m2)),by omega,?_⟩
  rw[e1]
  refine⟨.ref c,(jKd R3.1).trans c2,_,jQ5 c3 (jXs (by rw[List.length_map];exact m4)),?_⟩
  rw[e2]
  refine xi4 _ _ _ _ rfl ⟨⟨p4.len,p4.row,fun t' k0 e' f' σ' k1 h g4 g5 g6=> ?_⟩,R4,fun a' o h1 h2=> ?_⟩
  ·by_cases hh:t'=t/\k0=k
   ·obtain⟨rfl,rfl⟩:=hh
    rw[hte] at g4;cases g4
    rw[hσ] at g5;cases g5
    rw[hk'] at g6;cases g6
    exact⟨p6 _ _ (f.1+k'*W.length,f.2) hb1 p2,p5⟩
   ·exact p4.dn t' k0 e' f' σ' k1 (by omega) g4 g5 g6
  ·rw[jJn fun z=>h1 (by rw[z];exact List.mem_of_getElem? c1),jJn fun z=>h1 (by rw[z];exact List.mem_of_getElem? a1)]
   exact g2 a' o h1 h2
 ·intro τ G2 h_;apply xe4 h_;clear h_;intro v8 v9 v10 U' h_;apply ae3 h_;clear h_;intro tb2 R2 g2
  rw[jK6] at tb2
  refine kk U' G2 v8 v9 v10 ⟨tb2.len,tb2.row,fun t' k e f σ k' h=>tb2.dn t' k e f σ k' ?_⟩ R2 g2
  by_cases z:t'=t
  ·exact .inr ⟨z,h.2⟩
  ·exact .inl ⟨by omega,h.2⟩
noncomputable def jQ4:SpX:=fun xs G Q R=>∃(W:Web) (m:Nat) (Ts:List (List Nat)) (tr:Addr),xs=[encW W,.int m,.ref tr]/\Fine W/\Sym W/\1<=W.length/\1<=m/\m*W.length<=1000/\TurnsT W m Ts/\G tr=some (.lst (Ts.map fun σ=>T.tup (jJi σ)))/\(TurnsOk W m Ts->∃V,VT W m Ts V/\∀G',Sub G G'->Q (encW V) G')/\(¬ TurnsOk W m Ts->∀G',Sub G G'->R "NoWeb" G')
theorem jZg:kVv jQ4:=by
 rintro xs G Q Q' R R' hQ hR ⟨W,m,Ts,tr,h1,h2,h3,h4,h5,h6,h7,h8,h9,h10⟩
 exact⟨W,m,Ts,tr,h1,h2,h3,h4,h5,h6,h7,h8,fun o=>(h9 o).elim fun V h=>⟨V,h.1,fun G' s=>hQ _ _ (h.2 G' s)⟩,fun o G' s=>hR _ _ (h10 o G' s)⟩
theorem jY8:∀xs G Q R,jQ4 xs G Q R->jU0 R {nx:=fun _ G'=>Q .non G',rt:=Q} (jQp kVt xs) G:=by
 intro xs G Q R h_;apply xe4 h_;clear h_;intro W m Ts tr h_;apply ae9 h_;clear h_;intro fine sym hW1 hm1 hmn tt htr kk kr
 show jU0 _ _ [some (.tup (W.map encR)),some (.int m),some (.ref tr),none,none,none,none,none,none,none,none,none] G
 have hs:=sz
 have hwl:=fine.len
 have hm2:m<=1000:=Nat.le_trans (Nat.le_mul_of_pos_right m hW1) hmn
 rw[kK7]
 wp_walk using 1,jJv,iSeq,kJr
 refine .inr ⟨W.map encR,m,rfl,rfl,?_,by omega,by omega,?_,?_⟩
 ·intro z
  have:=congrArg List.length z
  rw[List.length_map] at this;simp at this;rw[this] at hW1;simp at hW1
 ·rw[List.length_map];show (m:Int).toNat * W.length<=sizeLine;rw[show (m:Int).toNat=m by omega];omega
 rw[show (m:Int).toNat=m by omega,show (List.replicate m (W.map encR)).flatten=(List.replicate m W).flatten.map encR by rw[List.map_flatten,List.map_replicate]]
 refine⟨_,rfl,?_⟩
 refine jU8 (es:=(List.replicate m W).flatten) (enc:=encR) (fun es=>es.map encE) (by rw[jZ5];omega) (fun _ _=>rfl) ?_ ?_
 ·intro i es hes G' K K0 s hk
  wp_walk using 1,jV2,jYk,encR
  exact fun p hp=>hk p _ hp jJh (.new hp)
 ·intro D rs G1 hD hD1 s1 hrl hnd hrs
  have R1:RowsAt G1 D (List.replicate m W).flatten rs:=⟨hD1,hrl,fun i r hi=>by
   have hil:i<(List.replicate m W).flatten.length:=by rw[<-hrl];exact (List.getElem?_eq_some_iff.mp hi).1
   exact⟨_,List.getElem?_eq_getElem hil,(hrs i r _ hi (List.getElem?_eq_getElem hil)).2⟩⟩
  have hrG:∀a,a∈rs->G a=none/\∃o,G1 a=some o:=fun a ha=>by
   obtain⟨j,hj⟩:=List.getElem?_of_mem ha
   have hil:j<(List.replicate m W).flatten.length:=by rw[<-hrl];exact (List.getElem?_eq_some_iff.mp hj).1
   have:=hrs j a _ hj (List.getElem?_eq_getElem hil)
   exact⟨this.1,_,this.2⟩
  have htr1:=s1 _ _ htr
  refine⟨W,rfl,fine,fun pe G2 hpe hG2 hlen s2=> ?_⟩
  have htr2:=s2 _ _ htr1
  have hpr:pe∉rs:=fun z=>by obtain⟨_,o,ho⟩:=hrG pe z;rw[hpe] at ho;cases ho
  have htrs:tr∉rs:=fun z=>by have:=(hrG tr z).1;rw[htr] at this;cases this
  have lt:∀G' a xs,G' a=some (.lst xs)->jK0 G' (.ref a)=some xs:=fun G' a xs h=>by rw[show jK0 G' (.ref a)=asL (G' a) from rfl,h];rfl
  refine⟨_,lt _ _ _ hG2,_,lt _ _ _ htr2,?_⟩
  let J1:Nat->St3->Gp->Prop:=fun t τ G'=>∃(v4 v5 v6 v7 v8 v9 v10:Option T) (U:Web),τ=[some (.tup (W.map encR)),some (.int m),some (.ref tr),some (.ref D),v4,v5,v6,v7,v8,v9,v10,none]/\TB W m (kJo W m Ts) U (fun t' k=>t'<t/\k<m)/\(∀t',t'<t->∀(x:Tie) (σ:List Nat),(jJu W)[t']? =some x->Ts[t']? =some σ->x.1=x.2->Invol σ)/\RowsAt G' D U rs/\(∀a o,a∉rs->G2 a=some o->G' a=some o)
  refine⟨J1,?_,?_,?_,?_⟩
  ·refine xi8 _ _ _ _ _ _ _ (List.replicate m W).flatten rfl ⟨⟨jZ5,fun x ts h=> ?_,fun t k e f σ k' h=>absurd h.1 (Nat.not_lt_zero _)⟩,fun t h=>absurd h (Nat.not_lt_zero _),R1.sub s2,fun _ _ _ h=>h⟩
   have hx:x<m*W.length:=by rw[<-jZ5];exact (List.getElem?_eq_some_iff.mp h).1
   rw[kY1 m x hx] at h
   exact⟨ts,h,rfl⟩
  ·intro t τ G' ht h_;apply xe8 h_;clear h_;intro v4 v5 v6 v7 v8 v9 v10 U h_;apply ae4 h_;clear h_;intro tb nb R3 g3
   exact⟨lt _ _ _ (g3 _ _ hpr hG2),lt _ _ _ (g3 _ _ htrs htr2)⟩
  ·intro t y τ G3 hy h_;apply xe8 h_;clear h_;intro v4 v5 v6 v7 v8 v9 v10 U h_;apply ae4 h_;clear h_;intro tb nb R3 g3
   obtain⟨e,f,σ,hte,hσ,rfl⟩:∃e f σ,(jJu W)[t]? =some (e,f)/\Ts[t]? =some σ/\y= .tup [encT (e,f),.tup (jJi σ)]:=by
    unfold zipT at hy
    rw[List.getElem?_map] at hy
    cases hz:((jJu W).map encT |>.zip (Ts.map fun σ=>T.tup (jJi σ)))[t]? with
    | none=>rw[hz] at hy;cases hy
    | some z=>
     rw[hz] at hy;cases hy
     obtain⟨q1,q2⟩:=List.getElem?_zip_eq_some.mp hz
     obtain⟨⟨e,f⟩,h1,h2⟩:=jJ3 q1
     obtain⟨σ,h3,h4⟩:=jJ3 q2
     exact⟨e,f,σ,h1,h3,by show T.tup [z.1,z.2]=_;rw[h2,h4]⟩
   have T1:=tt.ok _ _ hσ
   have okm:=kKb tt
   have go:∀G4,Sub G3 G4->(e=f->Invol σ)->jVm {nx:=J1 (t+1),rt:=Q,bk:=jYf {nx:=fun _ G'=>Q .non G',rt:=Q},ct:=J1 (t+1)} [some (.tup (W.map encR)),some (.int m),some (.ref tr),some (.ref D),some (.tup [encE e,encE f]),some (.tup (jJi σ)),some (encE e),some (encE f),v8,v9,v10,none] G4:=by
    intro G4 s4 hc
    have hσ':(kJo W m Ts)[t]? =some σ:=by rw[jYo hte hσ];unfold mend;rw[if_neg fun z=>z.2 (hc z.1)]
    refine kZn fine sym hmn hW1 okm hte hσ' tb (R3.sub s4) hnd fun U' G' u8 u9 u10 tb' R' g'=> ?_
    refine xi8 _ _ _ _ _ _ _ U' rfl ⟨tb',fun t' ht' x σ' h1 h2=> ?_,R',fun a o h1 h2=>g' a o h1 (s4 _ _ (g3 a o h1 h2))⟩
    by_cases z:t'=t
    ·subst z;rw[hte] at h1;cases h1;rw[hσ] at h2;cases h2;exact hc
    ·exact nb t' (by omega) x σ' h1 h2
   wp_walk using 1,encT,rEqA,jUy
   refine⟨_,kJt,?_⟩
   by_cases hef:e=f
   ·rw[if_pos (decide_eq_true hef)]
    refine⟨σ,m,rfl,T1,hm2,fun b G4 hb s4=>⟨b,rfl,?_⟩⟩
    cases b with
    | true=>
     rw[if_neg (by decide)]
     exact go G4 s4 fun _=>hb.mp rfl
    | false=>
     rw[if_pos (by decide)]
     refine kr (fun o=> ?_) G4 fun a o ha=>s4 _ _ (g3 a o (fun z=> ?_) (s2 _ _ (s1 _ _ ha)))
     ·exact absurd (hb.mpr ((o.ok _ _ _ hte hσ).2 hef)) (by decide)
     ·rw[(hrG a z).1] at ha;cases ha
   ·rw[if_neg (by simpa using hef)]
    exact go G3 (.refl _) fun z=>absurd z hef
  ·intro τ G3 h_;apply xe8 h_;clear h_;intro v4 v5 v6 v7 v8 v9 v10 U h_;apply ae4 h_;clear h_;intro tb nb R3 g3
   have hzl:(zipT ((jJu W).map encT) (Ts.map fun σ=>T.tup (jJi σ))).length=(jJu W).length:=by
    unfold zipT;rw[List.length_map,List.length_zip,List.length_map,List.length_map,tt.len,Nat.min_self]
   rw[hzl] at tb nb
   obtain⟨em,ok⟩:=kKc (m:=m) tt fun t x σ h1=>nb t (List.getElem?_eq_some_iff.mp h1).1 x σ h1
   rw[em] at tb
   obtain⟨V,vt,kk⟩:=kk ok
   have eU:U=V:=by
    refine vt.eq (by rw[tb.len,vt.len]) (fun x es es' h1 h2=> ?_) fun x i y j hb _=> ?_
    ·obtain⟨ws,q1,q2⟩:=vt.row _ _ h1
     obtain⟨ws',q3,q4⟩:=tb.row _ _ h2
     rw[q1] at q3;cases q3;omega
    ·obtain⟨t,e,f,σ,k,k',h1,h2,h3,h4⟩:=hb
     obtain⟨T1,_⟩:=ok.ok _ _ _ h1 h2
     have hk:k<m:=by rw[<-T1.len];exact (List.getElem?_eq_some_iff.mp h3).1
     obtain⟨d1,d2⟩:=tb.dn t k e f σ k' ⟨(List.getElem?_eq_some_iff.mp h1).1,hk⟩ h1 h2 h3
     rcases h4 with ⟨rfl,rfl,rfl,rfl⟩ | ⟨rfl,rfl,rfl,rfl⟩
     ·exact d1
     ·exact d2
   subst eU
   wp_walk using 1,jYf,iSeq,jJk R3.1
   have hrl2:rs.length=U.length:=R3.2.1
   refine jKl (es:=rs) (enc:=T.ref) (fun r=>T.tup (match G3 r with | some (.lst ts)=>ts | _=>[])) (by rw[hrl2,tb.len];omega) (fun G' s=>jJk (s _ _ R3.1)) ?_ ?_
   ·intro i r hr G4 K K0 s hk
    obtain⟨ts,z1,z2⟩:=R3.2.2 i r hr
    wp_walk using 1,jJk (s _ _ z2)
    have:=hk G4 (.refl _)
    rw[z2] at this
    exact this
   ·intro E G4 hE h4 s4
    refine⟨_,jJk h4,?_⟩
    have e1:rs.map (fun r=>T.tup (match G3 r with | some (.lst ts)=>ts | _=>[]))=U.map encR:=by
     apply List.ext_getElem?
     intro i
     by_cases hi:i<rs.length
     ·have hri:rs[i]? =some rs[i]:=List.getElem?_eq_getElem hi
      obtain⟨ts,z1,z2⟩:=R3.2.2 i _ hri
      rw[List.getElem?_map,List.getElem?_map,hri,z1]
      simp only[Option.map_some,z2];rfl
     ·rw[List.getElem?_eq_none (by rw[List.length_map];omega),List.getElem?_eq_none (by rw[List.length_map,<-hrl2];omega)]
    rw[e1]
    refine kk G4 (fun a o ha=>s4 _ _ (g3 a o (fun z=> ?_) (s2 _ _ (s1 _ _ ha))))
    rw[(hrG a z).1] at ha;cases ha
def Out (W:Web) (m:Nat) (Ts:List (List Nat)) (u:T):Prop:=(TurnsOk W m Ts->∃V,VT W m Ts V/\Fine V/\u=if (bfs V 0).length=V.length then encW V else .non)/\(¬ TurnsOk W m Ts->u= .non)
structure Hand (W:Web) (m:Nat) (Ts:List (List Nat)) (tr:Addr) (G:Gp):Prop where
 fine:Fine W
 sym:Sym W
 w1:1<=W.length
 m1:1<=m
 mn:m*W.length<=1000
 tt:TurnsT W m Ts
 tr:G tr=some (.lst (Ts.map fun σ=>T.tup (jJi σ)))
theorem Hand.sub {W:Web} {m:Nat} {Ts:List (List Nat)} {tr:Addr} {G G':Gp} (h:Hand W m Ts tr G) (s:Sub G G'):Hand W m Ts tr G':=⟨h.fine,h.sym,h.w1,h.m1,h.mn,h.tt,s _ _ h.tr⟩
noncomputable def jUl:SpX:=fun xs G Q R=>∃(W:Web) (m:Nat) (Ts:List (List Nat)) (tr:Addr) (u:T),xs=[encW W,.int m,.ref tr]/\Hand W m Ts tr G/\Out W m Ts u/\(u≠ .non->∀G',Sub G G'->Q u G')/\(u= .non->∀G',Sub G G'->R "NoWeb" G')
theorem kJl:kVv jUl:=by
 rintro xs G Q Q' R R' hQ hR ⟨W,m,Ts,tr,u,h1,h2,h3,h4,h5⟩
 exact⟨W,m,Ts,tr,u,h1,h2,h3,fun o G' s=>hQ _ _ (h4 o G' s),fun o G' s=>hR _ _ (h5 o G' s)⟩
def kYr:List Str:=["web","many","turns","told"]
noncomputable def jVu (R:XK3):TS3:=
 (tSeq (tAsg (kQy jQ4 R (jJc (tVar 0) (jJc (tVar 1) (jJc (tVar 2) tNil)))) (jJg 3))
 (tSeq (tIfS (jKa (tOp rLt (tCB kXh (jJc (jJw jKr (jJc (tVar 3) (jJc (tC (.int 0)) tNil))) tNil)) (tCB kXh (jJc (tVar 3) tNil)))) (jUy R "NoWeb") jQt)
 (tRet (tVar 3))))
theorem bfs_le {V:Web} (f:Fine V) (h:0<V.length):(bfs V 0).length<=V.length:=jK8 (kZj f h).2.nd (kZj f h).2.lt
theorem jZ7:∀xs G Q R,jUl xs G Q R->jVu R {nx:=fun _ G'=>Q .non G',rt:=Q} (jQp kYr xs) G:=by
 intro xs G Q R h_;apply xe5 h_;clear h_;intro W m Ts tr u h_;apply ae4 h_;clear h_;intro hd ho kk kr
 show jVu _ _ [some (encW W),some (.int m),some (.ref tr),none] G
 wp_walk using 1,jVu,kXh,kQy,jUy
 refine⟨W,m,Ts,tr,rfl,hd.fine,hd.sym,hd.w1,hd.m1,hd.mn,hd.tt,hd.tr,fun ok=> ?_,fun no G1 s1=>kr (ho.2 no) G1 s1⟩
 obtain⟨V,vt,fv,rfl⟩:=ho.1 ok
 have hV0:0<V.length:=by rw[vt.len];exact Nat.mul_pos hd.m1 hd.w1
 have hle:=bfs_le fv hV0
 refine⟨V,vt,fun G1 s1=>⟨V,0,rfl,fv,hV0,fun d G2 kvs hd hG2 hk s2=> ?_⟩⟩
 have hkl:kvs.length=(bfs V 0).length:=by
  have:=congrArg List.length hk
  rw[List.length_map,List.length_map] at this;exact this
 have hlen:lenG G2 (.ref d)=some kvs.length:=by simp only[lenG,hG2]
 have hlen2:lenG G2 (encW V)=some V.length:=by show some (V.map encR).length=_;rw[List.length_map]
 refine⟨_,hlen,_,hlen2,?_⟩
 by_cases hb:(bfs V 0).length=V.length
 ·rw[if_pos hb] at kk
  rw[if_neg (by omega)]
  exact kk (fun z=>by cases z) G2 (s1.trans s2)
 ·rw[if_neg hb] at kr
  rw[if_pos (by omega)]
  exact kr rfl G2 (s1.trans s2)
structure OkD (d:Nat) (x:T):Prop where
 tr:tree x=true
 lay:(td x).canLay0=true
 dep:(td x).depth<=d
 eq:eqT x x=true
theorem okD_int {i:Int}:OkD 0 (.int i):=⟨rfl,rfl,Nat.le_of_eq (by simp[td,PyData.depth]),by simp[eqT]⟩
theorem kJi {d:Nat}:∀xs:List T,(∀x,x∈xs->OkD d x)->jKp xs=true/\PyData.canLayAll0 (tds xs)=true/\PyData.depthAll (tds xs)<=d/\eqTs xs xs=true
 | [],_=>⟨rfl,by simp[tds,PyData.canLayAll0],by simp[tds,PyData.depthAll],rfl⟩
 | x::xs,h=>by
  obtain⟨a1,a2,a3,a4⟩:=kJi xs fun y hy=>h y (List.mem_cons_of_mem _ hy)
  obtain⟨b1,b2,b3,b4⟩:=h x (List.mem_cons_self ..)
  refine⟨?_,?_,?_,?_⟩
  ·show (tree x&&jKp xs)=true;rw[a1,b1];rfl
  ·rw[tds,PyData.canLayAll0,a2,b2];rfl
  ·rw[tds,PyData.depthAll];omega
  ·show (eqT x x&&eqTs xs xs)=true;rw[a4,b4];rfl
theorem jYl {d:Nat} {xs:List T} (h:∀x,x∈xs->OkD d x):OkD (d+1) (.tup xs):=by
 obtain⟨a1,a2,a3,a4⟩:=kJi xs h
 exact⟨a1,by rw[td,PyData.canLay0];exact a2,by rw[td,PyData.depth];omega,a4⟩
theorem kZ4 {W:Web}:OkD 3 (encW W):=by
 refine jYl fun x hx=> ?_
 obtain⟨es,_,rfl⟩:=List.mem_map.mp hx
 refine jYl fun x hx=> ?_
 obtain⟨e,_,rfl⟩:=List.mem_map.mp hx
 refine jYl fun x hx=> ?_
 simp only[List.not_mem_nil,List.mem_cons,or_false] at hx
 rcases hx with rfl | rfl<;>exact okD_int
theorem qJr {G:Gp} {W:Web}:eqG G (encW W) (encW W)=some true:=by
 have h:=kZ4 (W:=W)
 have e:eqOk (encW W)=true:=by
  unfold eqOk
  rw[h.tr,h.lay,decide_eq_true (show (td (encW W)).depth<=50 by have:=h.dep;omega)];rfl
 show (if eqOk (encW W)=true/\eqOk (encW W)=true then some (eqT (encW W) (encW W)) else none)=_
 rw[if_pos ⟨e,e⟩,h.eq]
theorem OkD.mono {d d':Nat} {x:T} (h:OkD d x) (l:d<=d'):OkD d' x:=⟨h.tr,h.lay,Nat.le_trans h.dep l,h.eq⟩
theorem okD_ints {w:List Nat}:OkD 1 (.tup (jJi w)):=jYl fun x hx=>by
 obtain⟨e,_,rfl⟩:=List.mem_map.mp hx;exact okD_int
theorem kUo {xs:List T} (h:∀x,x∈xs->OkD 40 x):jU7 xs=true:=by
 obtain⟨a1,a2,a3,_⟩:=kJi xs h
 unfold jU7
 rw[a1,a2,decide_eq_true (show (PyData.list (tds xs)).depth<=50 by rw[PyData.depth];omega)];rfl
theorem jXd:∀ {a b:List Nat},eqTs (jJi a) (jJi b)=decide (a=b)
 | [],[]=>rfl
 | [],_::_=>by simp[jJi,eqTs]
 | _::_,[]=>by simp[jJi,eqTs]
 | x::a,y::b=>by
  show (eqT (.int x) (.int y)&&eqTs (jJi a) (jJi b))=_
  rw[jXd]
  have:eqT (.int (x:Nat)) (.int (y:Nat))=decide (x=y):=by
   by_cases h:x=y
   ·subst h;simp[eqT]
   ·have h2:¬ (x:Int)=y:=by omega
    rw[decide_eq_false h];simpa[eqT] using h2
  rw[this];simp
theorem jX1:∀Ts:List (List Nat),eqTs (Ts.map fun σ=>T.tup (jJi σ)) (Ts.map fun σ=>T.tup (jJi σ))=true
 | []=>rfl
 | σ::Ts=>by
  show (eqTs (jJi σ) (jJi σ)&&eqTs (Ts.map fun σ=>T.tup (jJi σ)) (Ts.map fun σ=>T.tup (jJi σ)))=true
  rw[jXd,jX1 Ts];simp
theorem kVb {G:Gp} {p q:Addr} {Ts:List (List Nat)} (h1:G p=some (.lst (Ts.map fun σ=>T.tup (jJi σ)))) (h2:G q=some (.lst (Ts.map fun σ=>T.tup (jJi σ)))):eqG G (.ref p) (.ref q)=some true:=by
 have ok:jU7 (Ts.map fun σ=>T.tup (jJi σ))=true:=kUo fun x hx=>by
  obtain⟨σ,_,rfl⟩:=List.mem_map.mp hx;exact okD_ints.mono (by decide)
 have:eqG G (.ref p) (.ref q)=if jU7 (Ts.map fun σ=>T.tup (jJi σ))=true/\jU7 (Ts.map fun σ=>T.tup (jJi σ))=true then some (eqTs (Ts.map fun σ=>T.tup (jJi σ)) (Ts.map fun σ=>T.tup (jJi σ))) else none:=by simp only[eqG,h1,h2]
 rw[this,if_pos ⟨ok,ok⟩,jX1]
theorem out_ex {W:Web} {m:Nat} {Ts:List (List Nat)} (f:Fine W) (sym:Sym W) (mn:m*W.length<=1000):∃u,Out W m Ts u/\∀G,eqG G u u=some true:=by
 by_cases ok:TurnsOk W m Ts
 ·obtain⟨V,vt,sh⟩:=vt_ex sym ok
  refine⟨_,⟨fun _=>⟨V,vt,sh.fine f mn,rfl⟩,fun no=>absurd ok no⟩,fun G=> ?_⟩
  split
  ·exact qJr
  ·rfl
 ·exact⟨.non,⟨fun o=>absurd o ok,fun _=>rfl⟩,fun G=>rfl⟩
theorem kVc {G:Gp} {p q:Addr} {a b:List Nat} (h1:G p=some (.lst (jJi a))) (h2:G q=some (.lst (jJi b))):eqG G (.ref p) (.ref q)=some (decide (a=b)):=by
 have ok:∀F:List Nat,jU7 (jJi F)=true:=fun F=>kUo fun x hx=>by
  obtain⟨σ,_,rfl⟩:=List.mem_map.mp hx;exact okD_int.mono (by decide)
 have:eqG G (.ref p) (.ref q)=if jU7 (jJi a)=true/\jU7 (jJi b)=true then some (eqTs (jJi a) (jJi b)) else none:=by simp only[eqG,h1,h2]
 rw[this,if_pos ⟨ok a,ok b⟩,jXd]
def sqN (σ:List Nat):List Nat:=σ.map fun x=>(σ[x]?).getD 0
theorem kYz {m:Nat} {σ:List Nat} (h:Turn m σ):sqN σ=List.range m↔Invol σ:=by
 have key:∀k x,σ[k]? =some x->∃y,σ[x]? =some y/\(sqN σ)[k]? =some y:=fun k x hx=>by
  obtain⟨y,hy,_⟩:=h.at (h.lt _ (List.mem_of_getElem? hx))
  exact⟨y,hy,by unfold sqN;rw[List.getElem?_map,hx,Option.map_some,hy];rfl⟩
 constructor
 ·intro e k x hx
  obtain⟨y,hy,h2⟩:=key k x hx
  have hk:k<m:=by rw[<-h.len];exact (List.getElem?_eq_some_iff.mp hx).1
  rw[e,List.getElem?_range hk] at h2;cases h2;exact hy
 ·intro q
  apply List.ext_getElem?
  intro k
  by_cases hk:k<m
  ·obtain⟨x,hx,_⟩:=h.at hk
   obtain⟨y,hy,h2⟩:=key k x hx
   rw[q k x hx] at hy;cases hy
   rw[h2,List.getElem?_range hk]
  ·rw[List.getElem?_eq_none (by unfold sqN;rw[List.length_map,h.len];omega),List.getElem?_eq_none (by rw[List.length_range];omega)]
def jVk:Sp3:=fun xs G Q=>∃(W:Web) (m:Nat) (Ts:List (List Nat)) (tr:Addr) (u:T),xs=[encW W,.ref tr,.int m]/\Hand W m Ts tr G/\Out W m Ts u/\∀G',Sub G G'->Q u G'
def qJ5:List Str:=["_law_web_here","_law_turns","_law_many","_law_turn_here","_law_one","_law_other","_law_made","_law_k"]
noncomputable def jYh:TS3:=
 (tSeq (tFor (kJr (jJc (tVar 1) (jJc (jJw jKz (jJc (tVar 0) tNil)) tNil))) (gTup 2 (jJx (jJg 3) (jJx (gTup 2 (jJx (jJg 4) (jJx (jJg 5) gNil))) gNil))) (tIfS (tAnd (jKa (tOp rEqA (tVar 4) (tVar 5))) (jKa (tOp rNeA (jKq [false,false,false,false,false,false,false,true] (iSeq (tVar 3)) (jJg 7) jK2 (tOp rIxF (tVar 3) (tVar 7))) (jKh (jJc (tVar 2) tNil))))) (tRet (tC .non)) jQt))
 (tSeq (tAsg (jJw jK4 (jJc (tVar 0) (jJc (tVar 1) (jJc (tVar 2) tNil)))) (jJg 6))
 (tRet (tIf (jKa (tOp rEqA (tCB rLen (jJc (jJw jK5 (jJc (tVar 6) (jJc (tC (.int 0)) tNil))) tNil)) (tCB rLen (jJc (tVar 6) tNil)))) (tVar 6) (tC .non)))))
noncomputable def kUa:TS3:=(tSeq (tAsg (jJw jK4 (jJc (tVar 0) (jJc (tVar 1) (jJc (tVar 2) tNil)))) (jJg 6))
 (tRet (tIf (jKa (tOp rEqA (tCB rLen (jJc (jJw jK5 (jJc (tVar 6) (jJc (tC (.int 0)) tNil))) tNil)) (tCB rLen (jJc (tVar 6) tNil)))) (tVar 6) (tC .non))))
theorem kQ9:jYh=tSeq (tFor (kJr (jJc (tVar 1) (jJc (jJw jKz (jJc (tVar 0) tNil)) tNil))) (gTup 2 (jJx (jJg 3) (jJx (gTup 2 (jJx (jJg 4) (jJx (jJg 5) gNil))) gNil))) (tIfS (tAnd (jKa (tOp rEqA (tVar 4) (tVar 5))) (jKa (tOp rNeA (jKq [false,false,false,false,false,false,false,true] (iSeq (tVar 3)) (jJg 7) jK2 (tOp rIxF (tVar 3) (tVar 7))) (jKh (jJc (tVar 2) tNil))))) (tRet (tC .non)) jQt)) kUa:=rfl
theorem kK5:RdOk jVk jYh qJ5:=by
 intro xs G Q h_;apply xe5 h_;clear h_;intro W m Ts tr u h_;apply ae3 h_;clear h_;intro hd ho kk
 show jYh _ [some (encW W),some (.ref tr),some (.int m),none,none,none,none,none] G
 have hs:=sz
 have fine:=hd.fine
 have tt:=hd.tt
 have hm2:m<=1000:=Nat.le_trans (Nat.le_mul_of_pos_right m hd.w1) hd.mn
 rw[kQ9]
 wp_walk using 1,jJv,kJr
 refine⟨W,rfl,fine,fun pe G2 hpe hG2 hlen s2=> ?_⟩
 have htr2:=s2 _ _ hd.tr
 have lt:∀G' a xs,G' a=some (.lst xs)->jK0 G' (.ref a)=some xs:=fun G' a xs h=>by rw[show jK0 G' (.ref a)=asL (G' a) from rfl,h];rfl
 refine⟨_,lt _ _ _ htr2,_,lt _ _ _ hG2,?_⟩
 let J1:Nat->St3->Gp->Prop:=fun t τ G'=>∃(v3 v4 v5:Option T),τ=[some (encW W),some (.ref tr),some (.int m),v3,v4,v5,none,none]/\(∀t',t'<t->∀(x:Tie) (σ:List Nat),(jJu W)[t']? =some x->Ts[t']? =some σ->x.1=x.2->Invol σ)/\Sub G2 G'
 refine⟨J1,?_,?_,?_,?_⟩
 ·exact xi3 _ _ _ rfl ⟨fun t h=>absurd h (Nat.not_lt_zero _),.refl _⟩
 ·intro t τ G' ht h_;apply xe3 h_;clear h_;intro v3 v4 v5 h_;apply ae2 h_;clear h_;intro nb s3
  exact⟨lt _ _ _ (s3 _ _ htr2),lt _ _ _ (s3 _ _ hG2)⟩
 ·intro t y τ G3 hy h_;apply xe3 h_;clear h_;intro v3 v4 v5 h_;apply ae2 h_;clear h_;intro nb s3
  obtain⟨e,f,σ,hte,hσ,rfl⟩:∃e f σ,(jJu W)[t]? =some (e,f)/\Ts[t]? =some σ/\y= .tup [.tup (jJi σ),encT (e,f)]:=by
   unfold zipT at hy
   rw[List.getElem?_map] at hy
   cases hz:((Ts.map fun σ=>T.tup (jJi σ)).zip ((jJu W).map encT))[t]? with
   | none=>rw[hz] at hy;cases hy
   | some z=>
    rw[hz] at hy;cases hy
    obtain⟨q1,q2⟩:=List.getElem?_zip_eq_some.mp hz
    obtain⟨⟨e,f⟩,h1,h2⟩:=jJ3 q2
    obtain⟨σ,h3,h4⟩:=jJ3 q1
    exact⟨e,f,σ,h1,h3,by show T.tup [z.1,z.2]=_;rw[h2,h4]⟩
  have T1:=tt.ok _ _ hσ
  have go:∀G4 (v3 v4 v5:Option T),Sub G3 G4->(e=f->Invol σ)->J1 (t+1) [some (encW W),some (.ref tr),some (.int m),v3,v4,v5,none,none] G4:=by
   intro G4 v3 v4 v5 s4 hc
   refine xi3 _ _ _ rfl ⟨fun t' ht' x σ' h1 h2=> ?_,s3.trans s4⟩
   by_cases z:t'=t
   ·subst z;rw[hte] at h1;cases h1;rw[hσ] at h2;cases h2;exact hc
   ·exact nb t' (by omega) x σ' h1 h2
  wp_walk using 1,encT,rEqA,rNeA,iSeq
  refine⟨_,kJt,?_⟩
  by_cases hef:e=f
  ·rw[if_pos (decide_eq_true hef)]
   refine jKl (es:=σ) (enc:=fun x:Nat=>T.int x) (fun x=>T.int ((σ[x]?).getD 0:Nat)) (by rw[T1.len];omega) (fun _ _=>trivial) ?_ ?_
   ·intro i x hx G' K K0 s hk
    have hxm:=T1.lt _ (List.mem_of_getElem? hx)
    obtain⟨y,hy,_⟩:=T1.at hxm
    have a1:L2.atI (jJi σ) (x:Int)=some (.int (y:Nat)):=by rw[atN];simp[jJi,hy]
    wp_walk using 1,a1
    have:=hk G' (.refl _)
    rw[hy] at this
    exact this
   ·intro D G4 hD h4 s4
    have h4':G4 D=some (.lst (jJi (sqN σ))):=by rw[h4];simp[jJi,sqN,List.map_map]
    wp_walk using 1,jKh
    refine⟨by omega,by omega,fun p hp=> ?_⟩
    have hpD:D≠p:=jJe h4' hp
    rw[show ((m:Int)).toNat=m by omega,jKj]
    refine⟨_,kVc (by rw[jJn hpD];exact h4') (jJh (o:= .lst (jJi (List.range m)))),?_⟩
    by_cases hi:Invol σ
    ·rw[decide_eq_true ((kYz T1).mpr hi),if_neg (by decide)]
     exact go _ _ _ _ (s4.trans (.new hp)) fun _=>hi
    ·rw[decide_eq_false fun z=>hi ((kYz T1).mp z),if_pos (by decide)]
     have:=ho.2 fun o=>hi ((o.ok _ _ _ hte hσ).2 hef)
     rw[this] at kk
     exact kk _ (((s2.trans s3).trans s4).trans (.new hp))
  ·rw[if_neg (by simpa using hef)]
   exact go G3 _ _ _ (.refl _) fun z=>absurd z hef
 ·intro τ G3 h_;apply xe3 h_;clear h_;intro v3 v4 v5 h_;apply ae2 h_;clear h_;intro nb s3
  have hzl:(zipT (Ts.map fun σ=>T.tup (jJi σ)) ((jJu W).map encT)).length=(jJu W).length:=by
   unfold zipT;rw[List.length_map,List.length_zip,List.length_map,List.length_map,tt.len,Nat.min_self]
  rw[hzl] at nb
  obtain⟨_,ok⟩:=kKc (m:=m) tt fun t x σ h1=>nb t (List.getElem?_eq_some_iff.mp h1).1 x σ h1
  obtain⟨V,vt,fv,rfl⟩:=ho.1 ok
  have hV0:0<V.length:=by rw[vt.len];exact Nat.mul_pos hd.m1 hd.w1
  wp_walk using 1,kUa,rEqA
  refine⟨W,tr,m,Ts,rfl,fine,hd.sym,hd.w1,hd.m1,hd.mn,ok,s3 _ _ htr2,fun V' G4 _ vt' s4=> ?_⟩
  cases vt.uniq hd.sym ok vt'
  wp_walk using 1,tSeq
  refine⟨V,0,rfl,fv,hV0,fun q G5 F hq hG5 _ hF s5=>⟨_,jJk hG5,?_⟩⟩
  have hlF:(jJi F).length=F.length:=by rw[jJi,List.length_map]
  have hlV:(V.map encR).length=V.length:=by rw[List.length_map]
  refine⟨V.map encR,rfl,?_⟩
  rw[hlF,hlV]
  refine⟨_,jYs,?_⟩
  have s6:Sub G G5:=((s2.trans s3).trans s4).trans s5
  subst hF
  by_cases hb:(bfs V 0).length=V.length
  ·rw[if_pos hb] at kk
   rw[if_pos (decide_eq_true hb)]
   exact kk G5 s6
  ·rw[if_neg hb] at kk
   rw[if_neg (by simpa using hb)]
   exact kk G5 s6
def jUm:Sp3:=fun xs G Q=>∃(W:Web) (m:Nat) (Ts:List (List Nat)) (tr:Addr) (u:T),xs=[encW W,.int m,.ref tr]/\Hand W m Ts tr G/\Out W m Ts u/\∀G',Sub G G'->Q u G'
def kYt:List Str:=["_law_web_here","_law_many","_law_turns","_law_found","_law_other","e"]
noncomputable def jVx:TS3:=
 (tSeq (tAsg (tTup tNil) (jJg 3))
 (tSeq (tTry 5 ["NoWeb"] (kZq (kZr jUl (jJc (tVar 0) (jJc (tVar 1) (jJc (tVar 2) tNil)))) 3) (tSeq (tAsg (kK0 [("NoWeb",false)] (tVar 5)) (jJg 4))
 (tIfS (tAnd (jKa (kK0 [("NoWeb",true)] (tVar 5))) (tAnd (jKa (kK0 [("NoWeb",true)] (tVar 5))) (tNot (tTru rTru (tVar 4))))) (tAsg (tC .non) (jJg 3)) jQt)))
 (tRet (tVar 3))))
theorem jZ9:RdOk jUm jVx kYt:=by
 intro xs G Q h_;apply xe5 h_;clear h_;intro W m Ts tr u h_;apply ae3 h_;clear h_;intro hd ho kk
 show jVx _ [some (encW W),some (.int m),some (.ref tr),none,none,none] G
 wp_walk using 1,jVx,tTry,kZq,kZr,kK0
 refine⟨Nat.zero_le _,W,m,Ts,tr,u,rfl,hd,ho,fun _ G1 s1=> ?_,fun hu G1 s1=>⟨by simp,fun a ha=> ?_⟩⟩
 ·wp_walk using 1,tSeq
  exact kk G1 s1
 ·wp_walk using 1,tSeq
  subst hu
  refine⟨_,rfl,false,List.mem_singleton.mpr rfl,_,rfl,true,List.mem_singleton.mpr rfl,?_⟩
  rw[if_pos rfl]
  refine⟨_,rfl,true,List.mem_singleton.mpr rfl,?_⟩
  rw[if_pos rfl,if_pos rfl]
  exact kk _ (s1.trans (.new ha))
theorem kVl {mask:List Bool} {g:TG3} {tif:TT3} {te:TE3} {τ:St3} {xs:List T} {stay:Gp->Prop} {G:Gp} {Q:VK3} {b:Addr} {n:Nat} (c:Nat) (Pr:Nat->T->Prop) (hz:xs.length<=sizeLine) (hb:BoxAt G b n) (hst:∀G',Keep b G G'->stay G')
  (h:∀(i:Nat) x,xs[i]? =some x->∀G' (K:T->Gp->Prop) (K0:Gp->Prop),BoxAt G' b (n+i*c)->Keep b G G'->(∀t G4,Pr i t->BoxAt G4 b (n+(i+1)*c)->Keep b G' G4->K t G4)->g x (msk mask τ) G' fun τ2 G2=>tif τ2 G2 fun b G3=>if b=true then te τ2 G3 K else K0 G3)
  (hq:∀D ts G',G D=none->G' D=some (.lst ts)->ts.length=xs.length->(∀(i:Nat) t,ts[i]? =some t->Pr i t)->BoxAt G' b (n+xs.length*c)->Keep b G G'->Q (.ref D) G'):jZv mask g tif te τ xs stay G Q:=by
 intro D hD
 obtain⟨bo,hbo⟩:=hb.some
 have hDb:b≠D:=jJe hbo hD
 let J1:Nat->List T->Gp->Prop:=fun i acc G'=>acc.length=i/\(∀(j:Nat) t,acc[j]? =some t->Pr j t)/\BoxAt G' b (n+i*c)/\Keep b G G'/\G' D=some (.lst acc)
 refine⟨J1,?_,?_,?_,?_⟩
 ·exact⟨rfl,fun j t z=>by simp at z,by simpa using hb.gup hDb,.new hD,jJh⟩
 ·rintro i acc G' hi ⟨j1,j2,j3,j4,j5⟩
  exact⟨hst G' j4,j5⟩
 ·rintro i x acc G3 hx ⟨j1,j2,j3,j4,j5⟩
  have hi:i<xs.length:=(List.getElem?_eq_some_iff.mp hx).1
  refine h i x hx G3 _ _ j3 j4 fun t G4 hp hb4 kp=> ?_
  refine⟨kp _ _ hDb.symm j5,by omega,by simp[j1],?_,hb4.gup hDb,(j4.trans kp).over hD,jJh⟩
  intro j u hu
  by_cases hjl:j<acc.length
  ·rw[List.getElem?_append_left hjl] at hu;exact j2 j u hu
  ·have:=(List.getElem?_eq_some_iff.mp hu).1
   simp at this
   have:j=acc.length:=by omega
   subst this
   rw[List.getElem?_append_right (Nat.le_refl _)] at hu
   simp at hu;subst hu
   rw[j1];exact hp
 ·rintro acc G3 ⟨j1,j2,j3,j4,j5⟩
  exact hq D acc G3 hD j5 j1 j2 j3 j4
theorem kUh {β:Type} {enc:β->T}:∀(ts:List T) (P:Nat->β->Prop),(∀(i:Nat) t,ts[i]? =some t->∃b,t=enc b/\P i b)->∃bs:List β,ts=bs.map enc/\∀(i:Nat) b,bs[i]? =some b->P i b
 | [],_,_=>⟨[],rfl,fun i b h=>by simp at h⟩
 | t::ts,P,h=>by
  obtain⟨b,rfl,hb⟩:=h 0 t rfl
  obtain⟨bs,rfl,h2⟩:=kUh ts (fun i=>P (i+1)) fun i t hi=>h (i+1) t hi
  refine⟨b::bs,rfl,fun i c hc=> ?_⟩
  cases i with
  | zero=>cases hc;exact hb
  | succ i=>exact h2 i c hc
noncomputable def jUo:Sp3:=fun xs G Q=>∃(b:Addr) (n:Nat),xs=[.ref b]/\BoxAt G b n/\n+400<2^40/\∀(W:Web) (m:Nat) G',AnyWeb W->1<=m->m<=6->BoxAt G' b (n+400)->Keep b G G'->Q (.tup [encW W,.int m]) G'
def kYx:List Str:=["_law_box_here","_law_web_here"]
noncomputable def jV1:TS3:=
 (tSeq (tIfS (jKa (tOp rEqA (jJw jJq (jJc (tVar 0) (jJc (tC (.int 6)) tNil))) (tC (.int 0)))) (tAsg (jJw jUn (jJc (tOp jJz (tC (.int 1)) (jJw jJq (jJc (tVar 0) (jJc (tC (.int 8)) tNil)))) tNil)) (jJg 1)) (tAsg (jJw jVj (jJc (tVar 0) (jJc (tOp jJz (tC (.int 1)) (jJw jJq (jJc (tVar 0) (jJc (tC (.int 6)) tNil)))) (jJc (tOp jJz (tC (.int 2)) (jJw jJq (jJc (tVar 0) (jJc (tC (.int 3)) tNil)))) tNil)))) (jJg 1)))
 (tRet (tTup (jJc (tVar 1) (jJc (tOp jJz (tC (.int 1)) (jJw jJq (jJc (tVar 0) (jJc (tCB kK9 (jJc (tC (.int 6)) (jJc (tOp kXi (tC (.int 24)) (tCB rLen (jJc (tVar 1) tNil))) tNil))) tNil)))) tNil)))))
noncomputable def jYj:TS3:=(tRet (tTup (jJc (tVar 1) (jJc (tOp jJz (tC (.int 1)) (jJw jJq (jJc (tVar 0) (jJc (tCB kK9 (jJc (tC (.int 6)) (jJc (tOp kXi (tC (.int 24)) (tCB rLen (jJc (tVar 1) tNil))) tNil))) tNil)))) tNil))))
theorem kK8:jV1=tSeq (tIfS (jKa (tOp rEqA (jJw jJq (jJc (tVar 0) (jJc (tC (.int 6)) tNil))) (tC (.int 0)))) (tAsg (jJw jUn (jJc (tOp jJz (tC (.int 1)) (jJw jJq (jJc (tVar 0) (jJc (tC (.int 8)) tNil)))) tNil)) (jJg 1)) (tAsg (jJw jVj (jJc (tVar 0) (jJc (tOp jJz (tC (.int 1)) (jJw jJq (jJc (tVar 0) (jJc (tC (.int 6)) tNil)))) (jJc (tOp jJz (tC (.int 2)) (jJw jJq (jJc (tVar 0) (jJc (tC (.int 3)) tNil)))) tNil)))) (jJg 1))) jYj:=rfl
theorem kJd:RdOk jUo jV1 kYx:=by
 intro xs G Q h_;apply xe2 h_;clear h_;intro b n h_;apply ae3 h_;clear h_;intro hb hn kk
 show jV1 _ [some (.ref b),none] G
 have hs:=sz
 have fin:∀(W:Web) G2 k,AnyWeb W->W.length<=24->BoxAt G2 b k->k<=n+399->Keep b G G2->jYj {nx:=fun _ G'=>Q .non G',rt:=Q} [some (.ref b),some (encW W)] G2:=by
  intro W G2 k any hl hb2 hk kp
  have hp:=any.pos
  wp_walk using 1,jYj,encW,kK9,List.length_map
  refine⟨⟨by omega,by omega⟩,b,_,k,rfl,hb2,by omega,?_,?_,fun r G3 r0 r1 b3 k3=> ?_⟩
  ·have:1<=24 / (W.length:Int):=by rw[Int.le_ediv_iff_mul_le (by omega)];omega
   split<;>omega
  ·split
   ·rename_i h;omega
   ·decide
  ·obtain⟨c,rfl⟩:=Int.eq_ofNat_of_zero_le r0
   have hc:c<6:=by split at r1<;>omega
   wp_walk using 1,tSeq
   refine⟨by omega,?_⟩
   rw[show (1:Int)+(c:Int)=((1+c:Nat):Int) by omega]
   exact kk W (1+c) G3 any (by omega) (by omega) (b3.mono (by omega)) (kp.trans k3)
 rw[kK8]
 wp_walk using 1,rEqA
 refine⟨b,6,n,rfl,hb,by omega,by decide,by decide,fun r G1 r0 r1 b1 k1=> ?_⟩
 obtain⟨c,rfl⟩:=Int.eq_ofNat_of_zero_le r0
 refine⟨_,jYs (c:=0),?_⟩
 split
 ·wp_walk using 1,tSeq
  refine⟨b,8,_,rfl,b1,by omega,by decide,by decide,fun r G2 r0 r1 b2 k2=> ?_⟩
  obtain⟨c2,rfl⟩:=Int.eq_ofNat_of_zero_le r0
  wp_walk using 1,tSeq
  refine⟨1+c2,by simp,by omega,by omega,fun G3 s3=> ?_⟩
  have any:AnyWeb (ring (1+c2)):=(kZx (by omega)).any (by omega) (by omega) (by omega)
  exact fin (ring (1+c2)) G3 _ any any.len (b2.sub s3) (by omega) ((k1.trans k2).trans (.sub s3))
 ·wp_walk using 1,tSeq
  refine⟨b,6,_,rfl,b1,by omega,by decide,by decide,fun r G2 r0 r1 b2 k2=> ?_⟩
  obtain⟨c2,rfl⟩:=Int.eq_ofNat_of_zero_le r0
  wp_walk using 1,tSeq
  refine⟨b,3,_,rfl,b2,by omega,by decide,by decide,fun r G3 r0 r1 b3 k3=> ?_⟩
  obtain⟨c3,rfl⟩:=Int.eq_ofNat_of_zero_le r0
  wp_walk using 1,tSeq
  refine⟨b,1+c2,2+c3,_,by simp,b3,by omega,by omega,by omega,by omega,by omega,fun W G4 wok b4 k4=> ?_⟩
  have any:=wok.any (by omega) (by omega) (by omega)
  exact fin W G4 _ any any.len b4 (by omega) (((k1.trans k2).trans k3).trans k4)
def kJ5 (Ts:List (List Nat)):GO:= .lst (Ts.map fun σ=>T.tup (jJi σ))
def Lists (W:Web) (m:Nat) (b:Addr) (G:Gp) (as:List Addr):Prop:=∀a,a∈as->a≠b/\∃Ts,TurnsT W m Ts/\G a=some (kJ5 Ts)
theorem Lists.keep {W:Web} {m:Nat} {b:Addr} {G G':Gp} {as:List Addr} (h:Lists W m b G as) (k:Keep b G G'):Lists W m b G' as:=fun a ha=>by
 obtain⟨h1,Ts,h2,h3⟩:=h a ha
 exact⟨h1,Ts,h2,k _ _ h1 h3⟩
theorem kXb {m:Nat}:Turn m (List.range m).reverse where
 len:=by rw[List.length_reverse,List.length_range]
 nd:=List.pairwise_reverse.mpr (List.Pairwise.imp Ne.symm List.nodup_range)
 lt:=fun x hx=>List.mem_range.mp (List.mem_reverse.mp hx)
theorem kKr {W:Web} {m:Nat} {σ:List Nat} (h:Turn m σ):TurnsT W m ((jJu W).map fun _=>σ) where
 len:=by rw[List.length_map]
 ok:=fun t σ' h'=>by
  obtain⟨_,_,e⟩:=jJ3 h'
  rw[<-e] at h;exact h
def jUz:Sp3:=fun xs G Q=>∃b:Addr,xs=[.ref b]/\BoxAt G b 0/\∀G',Keep b G G'->Q (.bl true) G'
def kVu:List Str:=["_law_box_here","_law_web_here","_law_many","_law_ends_here","_law_asked","_law_turn_here","_law_own","_law_turns","_law_kept","_law_pair","_law_one","_law_other"]
noncomputable def jU1:TS3:=
 (tSeq (tAsg (jJw jUo (jJc (tVar 0) tNil)) (gTup 2 (jJx (jJg 1) (jJx (jJg 2) gNil))))
 (tSeq (tAsg (jJw jKz (jJc (tVar 1) tNil)) (jJg 3))
 (tSeq (tAsg (tLst (jJc (jKq [false,false,false,false,false,false,false,false,false,true,false,false] (iSeq (tVar 3)) (jJg 9) jK2 (jY4 (jJc (tVar 2) tNil))) (jJc (jKq [false,false,false,false,false,false,false,false,false,true,false,false] (iSeq (tVar 3)) (jJg 9) jK2 (kQw (jY4 (jJc (tVar 2) tNil)) (kV1 (tUn rNeg (tC (.int 1)))))) tNil))) (jJg 4))
 (tSeq (tFor (jKb (jJc (tC (.int 5)) tNil)) (jJg 5) (tSeq (tAsg (tOp rEqA (jJw jJq (jJc (tVar 0) (jJc (tC (.int 3)) tNil))) (tC (.int 0))) (jJg 6))
 (jUk (tBM "list" jKf (tVar 4) (jJc (jKq [false,false,false,false,false,false,false,false,false,false,true,true] (iSeq (tVar 3)) (gTup 2 (jJx (jJg 10) (jJx (jJg 11) gNil))) jK2 (jJw jQu (jJc (tVar 0) (jJc (tVar 2) (jJc (kQz (tVar 6) (tOp rEqA (tVar 10) (tVar 11))) tNil))))) tNil)))))
 (tSeq (tFor (iSeq (tVar 4)) (jJg 7) (tSeq (tAsg (tCB jV2 (jJc (tVar 7) tNil)) (jJg 8))
 (tIfS (tOr (jKa (tOp rNeA (jJw jUm (jJc (tVar 1) (jJc (tVar 2) (jJc (tVar 7) tNil)))) (jJw jVk (jJc (tVar 1) (jJc (tVar 7) (jJc (tVar 2) tNil)))))) (jKa (tOp rNeA (tVar 7) (tVar 8)))) (tRet (tC (.bl false))) jQt)))
 (tRet (tC (.bl true))))))))
noncomputable def jVv:TS3:=(tSeq (tFor (iSeq (tVar 4)) (jJg 7) (tSeq (tAsg (tCB jV2 (jJc (tVar 7) tNil)) (jJg 8))
 (tIfS (tOr (jKa (tOp rNeA (jJw jUm (jJc (tVar 1) (jJc (tVar 2) (jJc (tVar 7) tNil)))) (jJw jVk (jJc (tVar 1) (jJc (tVar 7) (jJc (tVar 2) tNil)))))) (jKa (tOp rNeA (tVar 7) (tVar 8)))) (tRet (tC (.bl false))) jQt)))
 (tRet (tC (.bl true))))
theorem kJf:jU1=tSeq (tAsg (jJw jUo (jJc (tVar 0) tNil)) (gTup 2 (jJx (jJg 1) (jJx (jJg 2) gNil)))) (tSeq (tAsg (jJw jKz (jJc (tVar 1) tNil)) (jJg 3)) (tSeq (tAsg (tLst (jJc (jKq [false,false,false,false,false,false,false,false,false,true,false,false] (iSeq (tVar 3)) (jJg 9) jK2 (jY4 (jJc (tVar 2) tNil))) (jJc (jKq [false,false,false,false,false,false,false,false,false,true,false,false] (iSeq (tVar 3)) (jJg 9) jK2 (kQw (jY4 (jJc (tVar 2) tNil)) (kV1 (tUn rNeg (tC (.int 1)))))) tNil))) (jJg 4)) (tSeq (tFor (jKb (jJc (tC (.int 5)) tNil)) (jJg 5) (tSeq (tAsg (tOp rEqA (jJw jJq (jJc (tVar 0) (jJc (tC (.int 3)) tNil))) (tC (.int 0))) (jJg 6))
 (jUk (tBM "list" jKf (tVar 4) (jJc (jKq [false,false,false,false,false,false,false,false,false,false,true,true] (iSeq (tVar 3)) (gTup 2 (jJx (jJg 10) (jJx (jJg 11) gNil))) jK2 (jJw jQu (jJc (tVar 0) (jJc (tVar 2) (jJc (kQz (tVar 6) (tOp rEqA (tVar 10) (tVar 11))) tNil))))) tNil))))) jVv))):=rfl
theorem kK3 {b:Addr} {W:Web} {m:Nat} {A E0:Addr} {as:List Addr} {v5 v6:Option T} {G G0:Gp} {Q:VK3} (any:AnyWeb W) (hm1:1<=m) (hm6:m<=6) (hA:G A=some (.lst (as.map T.ref))) (hAb:A≠b) (hl:Lists W m b G as) (kp:Keep b G0 G) (kk:∀G',Keep b G0 G'->Q (.bl true) G'):
  jVv {nx:=fun _ G'=>Q .non G',rt:=Q} [some (.ref b),some (encW W),some (.int m),some (.ref E0),some (.ref A),v5,v6,none,none,none,none,none] G:=by
 have hs:=sz
 have fine:=any.fine
 have hp:=any.pos
 have hmn:m*W.length<=1000:=Nat.le_trans (Nat.mul_le_mul hm6 any.len) (by decide)
 wp_walk using 1,jVv,jJv,iSeq,jJk hA
 let J1:Nat->St3->Gp->Prop:=fun i τ G'=>∃(v7 v8:Option T),τ=[some (.ref b),some (encW W),some (.int m),some (.ref E0),some (.ref A),v5,v6,v7,v8,none,none,none]/\Sub G G'
 refine⟨J1,?_,?_,?_,?_⟩
 ·exact xi2 _ _ rfl (.refl _)
 ·intro i τ G' hi h_;apply xe2 h_;clear h_;intro v7 v8 s
  exact jJk (s _ _ hA)
 ·intro i y τ G2 hy h_;apply xe2 h_;clear h_;intro v7 v8 s2
  obtain⟨a,ha,rfl⟩:=jJ3 hy
  obtain⟨hab,Ts,tt,hT⟩:=hl a (List.mem_of_getElem? ha)
  have hT2:=s2 _ _ hT
  obtain⟨u,ho,hu⟩:=out_ex (m:=m) (Ts:=Ts) fine any.sym hmn
  wp_walk using 1,jV2,jYk,rNeA
  refine⟨_,jJk hT2,fun h hh=> ?_⟩
  have hd:Hand W m Ts a (gup G2 h (kJ5 Ts)):=⟨fine,any.sym,hp,hm1,hmn,tt,by rw[jJn (jJe hT2 hh)];exact hT2⟩
  refine⟨W,m,Ts,a,u,rfl,hd,ho,fun G3 s3=>⟨W,m,Ts,a,u,rfl,hd.sub s3,ho,fun G4 s4=>⟨true,hu G4,?_⟩⟩⟩
  rw[if_neg (by decide)]
  refine⟨true,kVb (s4 _ _ (s3 _ _ hd.tr)) (s4 _ _ (s3 _ _ jJh)),?_⟩
  rw[if_neg (by decide)]
  exact xi2 _ _ rfl (((s2.trans (.new hh)).trans s3).trans s4)
 ·intro τ G2 h_;apply xe2 h_;clear h_;intro v7 v8 s2
  wp_walk using 1,tSeq
  exact kk G2 (kp.trans (.sub s2))
theorem jY9:RdOk jUz jU1 kVu:=by
 intro xs G Q h_;apply xe1 h_;clear h_;intro b h_;apply ae2 h_;clear h_;intro hb kk
 show jU1 _ [some (.ref b),none,none,none,none,none,none,none,none,none,none,none] G
 have hs:=sz
 rw[kJf]
 wp_walk using 1,jJv,jKb
 refine⟨b,0,rfl,hb,by decide,fun W m G1 any hm1 hm6 b1 k1=> ?_⟩
 have fine:=any.fine
 have hel:=kYi any.deg
 have hwl:=any.len
 wp_walk using 1,tSeq
 refine⟨W,rfl,fine,fun E0 G2 hE0 hG2 _ s2=> ?_⟩
 have b2:=b1.sub s2
 have k2:Keep b G G2:=k1.trans (.sub s2)
 obtain⟨bo,hbo⟩:=b1.some
 have hbE:b≠E0:=jJe hbo hE0
 wp_walk using 1,iSeq,jY4,kQw,jJk hG2
 refine jKl (es:=jJu W) (enc:=encT) (fun _=>T.tup (jJi (List.range m))) (by omega) (fun G' s=>jJk (s _ _ hG2)) ?_ ?_
 ·intro i x hx G' K K0 s hk
  wp_walk using 1,jY4
  refine⟨m,rfl,by omega,?_⟩
  rw[jKj];exact hk G' (.refl _)
 ·intro D1 G3 hD1 hG3 s3
  have hE3:=s3 _ _ hG2
  wp_walk using 1,jJk hE3
  refine jKl (es:=jJu W) (enc:=encT) (fun _=>T.tup (jJi (List.range m).reverse)) (by omega) (fun G' s=>jJk (s _ _ hE3)) ?_ ?_
  ·intro i x hx G' K K0 s hk
   wp_walk using 1,jY4,kQw
   refine⟨m,rfl,by omega,?_⟩
   rw[jKj]
   wp_walk using 1,kV1,tUn,rNeg
   have:=hk G' (.refl _)
   rw[jJi,List.map_reverse] at this;exact this
  ·intro D2 G4 hD2 hG4 s4
   have k4:Keep b G G4:=(k2.trans (.sub s3)).trans (.sub s4)
   have b4:=(b2.sub s3).sub s4
   have hE4:=s4 _ _ hE3
   have hD14:=s4 _ _ hG3
   obtain⟨bo2,hbo2⟩:=b2.some
   have hD1b:D1≠b:=(jJe hbo2 hD1).symm
   have hD2b:D2≠b:=(jJe (s3 _ _ hbo2) hD2).symm
   wp_walk using 1,tSeq
   refine⟨by omega,fun A hA=>⟨by decide,by decide,?_⟩⟩
   have hbA:b≠A:=jJe (s4 _ _ (s3 _ _ hbo2)) hA
   have hE5:E0≠A:=jJe hE4 hA
   have hA1:D1≠A:=jJe hD14 hA
   have hA2:D2≠A:=jJe hG4 hA
   let J1:Nat->St3->Gp->Prop:=fun i τ G'=>∃(v5 v6:Option T) (as:List Addr),τ=[some (.ref b),some (encW W),some (.int m),some (.ref E0),some (.ref A),v5,v6,none,none,none,none,none]/\BoxAt G' b (400+1000*i)/\Keep b G G'/\G' A=some (.lst (as.map T.ref))/\as.length<=2+i/\A∉as/\Lists W m b G' as/\G' E0=some (.lst ((jJu W).map encT))
   refine⟨J1,?_,?_,?_,?_⟩
   ·refine xi3 _ _ [D1,D2] rfl ⟨(b4.gup hbA).mono (by omega),k4.over ?_,jJh,Nat.le_refl _,?_,?_,by rw[jJn hE5];exact hE4⟩
    ·exact k4.none hbA.symm hA
    ·intro z;rcases List.mem_cons.mp z with z | z
     ·exact hA1 z.symm
     ·rcases (List.mem_cons.mp z) with z | z
      ·exact hA2 z.symm
      ·cases z
    ·intro a z;rcases List.mem_cons.mp z with rfl | z
     ·exact⟨hD1b,_,kKr range_turn.1,by rw[jJn hA1,hD14];unfold kJ5;rw[List.map_map];rfl⟩
     ·rcases (List.mem_cons.mp z) with rfl | z
      ·exact⟨hD2b,_,kKr kXb,by rw[jJn hA2,hG4];unfold kJ5;rw[List.map_map];rfl⟩
      ·cases z
   ·intros;trivial
   ·intro i y τ G5 hy h_;apply xe3 h_;clear h_;intro v5 v6 as h_;apply ae7 h_;clear h_;intro b5 k5 a1 a2 a3 a4 e5
    obtain⟨hi,rfl⟩:=jYc hy
    have hi5:i<5:=hi
    wp_walk using 1,rEqA
    refine⟨b,3,_,rfl,b5,by omega,by decide,by decide,fun r G6 r0 r1 b6 k6=> ?_⟩
    obtain⟨c,rfl⟩:=Int.eq_ofNat_of_zero_le r0
    refine⟨_,jYs (c:=0),?_⟩
    have e6:=k6 _ _ hbE.symm e5
    have a6:=k6 _ _ hbA.symm a1
    wp_walk using 1,iSeq,jKo a6,jJk e6
    refine kVl (b:=b) 6 (fun j t=>∃ σ,t=T.tup (jJi σ)/\Turn m σ) (by rw[List.length_map];omega) b6 (fun G' s=>jJk (s _ _ hbE.symm e6)) ?_ ?_
    ·intro j x hx G' K K0 hb7 kp hk
     obtain⟨⟨e,f⟩,hef,rfl⟩:=jJ3 hx
     have hj:j<(jJu W).length:=(List.getElem?_eq_some_iff.mp hef).1
     wp_walk using 1,encT,rEqA,kQz
     have fin:∀own:Bool,jQu [.ref b,.int m,.bl own] G' K:=fun own=>
      ⟨b,m,_,own,rfl,hb7,by omega,hm1,by omega,fun σ G8 t1 _ b8 k8=>hk _ G8 ⟨σ,rfl,t1⟩ (b8.mono (by omega)) k8⟩
     split
     ·exact⟨_,kJt,fin _⟩
     ·exact fin _
    ·intro D ts G7 hD hD7 hlt hts b7 k7
     obtain⟨Ts,rfl,hTs⟩:=kUh (enc:=fun σ=>T.tup (jJi σ)) ts (fun j σ=>Turn m σ) hts
     rw[List.length_map,List.length_map] at hlt
     rw[List.length_map] at b7
     have tt:TurnsT W m Ts:=⟨hlt,fun t σ h=>hTs t σ h⟩
     obtain⟨bo6,hbo6⟩:=b6.some
     have hDb:D≠b:=(jJe hbo6 hD).symm
     have hAD:A≠D:=jJe a6 hD
     have a7:=k7 _ _ hbA.symm a6
     wp_walk using 1,jKf
     refine⟨_,a7,by rw[List.length_map];omega,xi3 _ _ (as++[D]) rfl ⟨(b7.gup hbA).mono (by omega),((k5.trans k6).trans k7).over (k4.none hbA.symm hA),by rw[jJh];simp,by simp;omega,?_,?_,by rw[jJn hE5];exact k7 _ _ hbE.symm e6⟩⟩
     ·intro z;rcases List.mem_append.mp z with z | z
      ·exact a3 z
      ·exact hAD (List.mem_singleton.mp z)
     ·intro a z;rcases List.mem_append.mp z with z | z
      ·obtain⟨q1,Ts',q2,q3⟩:=((a4.keep k6).keep k7) a z
       exact⟨q1,Ts',q2,by rw[jJn (fun w=>a3 (by rw[<-w];exact z))];exact q3⟩
      ·cases List.mem_singleton.mp z
       exact⟨hDb,Ts,tt,by rw[jJn hAD.symm];exact hD7⟩
   ·intro τ G5 h_;apply xe3 h_;clear h_;intro v5 v6 as h_;apply ae7 h_;clear h_;intro b5 k5 a1 a2 a3 a4 e5
    exact kK3 any hm1 hm6 a1 hbA.symm a4 k5 kk
def kQ1:Sp3:=fun xs G Q=>∃ns:List Int,xs=[.scr (jV9 ns)]/\ns.length<=63/\∀G',Q (.bl true) G'
def N_law:List Str:=["_law_script","_law_k"]
noncomputable def kJ9:TS3:=
 (tRet (tCB rAll (jJc (jKq [false,true] (jKb (jJc (tOp jJz (tC (.int 1)) (tCB kK9 (jJc (tC (.int 6)) (jJc (tCB rLen (jJc (tVar 0) tNil)) tNil)))) tNil)) (jJg 1) jK2 (jJw jUz (jJc (jJw jYb (jJc (tVar 0) (jJc (tVar 1) tNil))) tNil))) tNil)))
theorem kXe:RdOk kQ1 kJ9 N_law:=by
 intro xs G Q h_;apply xe1 h_;clear h_;intro ns h_;apply ae2 h_;clear h_;intro hns kk
 show kJ9 _ [some (.scr (jV9 ns)),none] G
 have hs:=sz
 wp_walk using 1,kJ9,kK9,jKb
 obtain⟨c,hc,hc7⟩:∃c:Nat,(1+if (((jV9 ns).length:Nat):Int)<6 then (((jV9 ns).length:Nat):Int) else 6)=(c:Nat)/\c<=7:=by
  split
  ·exact⟨1+(jV9 ns).length,by omega,by omega⟩
  ·exact⟨7,rfl,by omega⟩
 refine⟨jV9 ns,rfl,?_⟩
 rw[hc]
 refine⟨by omega,by omega,?_⟩
 rw[show ((c:Nat):Int).toNat=c by omega,jKj]
 refine jKl (es:=List.range c) (enc:=fun r:Nat=>T.int r) (fun _=>T.bl true) (by simp;omega) (fun _ _=>trivial) ?_ ?_
 ·intro i r hr G1 K K0 s1 hK
  obtain⟨q1,q2⟩:=List.getElem?_eq_some_iff.mp hr
  simp at q1 q2;subst q2
  wp_walk using 1,tSeq
  refine⟨ns,i,rfl,hns,by omega,by omega,fun p G2 hp hb s2=>⟨p,rfl,hb,fun G3 k3=>hK G3 fun a o ha=> ?_⟩⟩
  exact k3 a o (fun z=>by rw[z,hp] at ha;cases ha) (s2 _ _ ha)
 ·intro D G1 hD h1 s1
  refine⟨D,_,_,rfl,h1,jUw (f:=fun _=>true),?_⟩
  rw[List.all_eq_true.mpr (fun _ _=>rfl)]
  exact kk G1
end W
namespace W
open PySem PySem.Spec PyProof.Rows L2 L3
theorem ln1 {α:Type} {us:List α} {C:List α->Prop} (h:us.length=1) (k:∀a0,C [a0]):C us:=by
 obtain⟨a0,us,rfl⟩:=List.exists_cons_of_length_eq_add_one h
 replace h:=Nat.succ.inj h
 cases List.length_eq_zero_iff.mp h
 exact k a0
theorem ln2 {α:Type} {us:List α} {C:List α->Prop} (h:us.length=2) (k:∀a0 a1,C [a0,a1]):C us:=by
 obtain⟨a0,us,rfl⟩:=List.exists_cons_of_length_eq_add_one h
 replace h:=Nat.succ.inj h
 obtain⟨a1,us,rfl⟩:=List.exists_cons_of_length_eq_add_one h
 replace h:=Nat.succ.inj h
 cases List.length_eq_zero_iff.mp h
 exact k a0 a1
theorem ln3 {α:Type} {us:List α} {C:List α->Prop} (h:us.length=3) (k:∀a0 a1 a2,C [a0,a1,a2]):C us:=by
 obtain⟨a0,us,rfl⟩:=List.exists_cons_of_length_eq_add_one h
 replace h:=Nat.succ.inj h
 obtain⟨a1,us,rfl⟩:=List.exists_cons_of_length_eq_add_one h
 replace h:=Nat.succ.inj h
 obtain⟨a2,us,rfl⟩:=List.exists_cons_of_length_eq_add_one h
 replace h:=Nat.succ.inj h
 cases List.length_eq_zero_iff.mp h
 exact k a0 a1 a2
def top (i:Nat):Stmt:=PySem.Challenge.pw_stonewalker_k25_no_spreading.main.body.getD i (.Pass ⟨0,0,0,0⟩)
def FnAt (K:PySem.W.Frag) (mg:Str->Option Value) (x:Str) (i:Nat):Prop:=∃f fd,mg x=some (.ref f)/\Fun K x x (top i) f fd
structure Txt (K:PySem.W.Frag) (mg:Str->Option Value):Prop where
 n_abs:mg "abs"=none
 n_all:mg "all"=none
 n_divmod:mg "divmod"=none
 n_enumerate:mg "enumerate"=none
 n_int:mg "int"=none
 n_isinstance:mg "isinstance"=none
 n_len:mg "len"=none
 n_list:mg "list"=none
 n_min:mg "min"=none
 n_range:mg "range"=none
 n_tuple:mg "tuple"=none
 n_zip:mg "zip"=none
 x_NoWeb:ExC K mg "NoWeb"
 i_BadRow_Clash_NoDoor_NoMark_NoStone_NotWhole_TooMany:∀cn b,(cn,b)∈([("NoWeb",false)]:List (Str×Bool))->IsX K mg ["BadRow","Clash","NoDoor","NoMark","NoStone","NotWhole","TooMany"] cn b
 v_TooMany:∃v,ClsV mg "TooMany" v/\Cl1 v
 v_NotWhole:∃v,ClsV mg "NotWhole" v/\Cl1 v
 v_NoStone:∃v,ClsV mg "NoStone" v/\Cl1 v
 v_NoMark:∃v,ClsV mg "NoMark" v/\Cl1 v
 v_NoDoor:∃v,ClsV mg "NoDoor" v/\Cl1 v
 v_Clash:∃v,ClsV mg "Clash" v/\Cl1 v
 v_BadRow:∃v,ClsV mg "BadRow" v/\Cl1 v
 i_NoWeb:∀cn b,(cn,b)∈([("NoWeb",true)]:List (Str×Bool))->IsX K mg ["NoWeb"] cn b
 v_NoWeb:∃v,ClsV mg "NoWeb" v/\Cl1 v
 i_ValueError:∀cn b,(cn,b)∈([("NoWeb",true)]:List (Str×Bool))->IsX K mg ["ValueError"] cn b
 v_ValueError:∃v,ClsV mg "ValueError" v/\Cl1 v
 t_WebError:∀cn,cn∈(["NoWeb"]:List Str)->ExSub K mg cn "WebError" true
 f_first_comings:FnAt K mg "first_comings" 11
 f_ties:FnAt K mg "ties" 12
 f_is_own_back:FnAt K mg "is_own_back" 14
 f_tied_by:FnAt K mg "tied_by" 15
 f_spread:FnAt K mg "spread" 16
 f_l_box:FnAt K mg "_law_box" 18
 f_l_take:FnAt K mg "_law_take" 19
 f_l_joined:FnAt K mg "_law_joined" 20
 f_l_doors_put:FnAt K mg "_law_doors_put" 21
 f_l_web:FnAt K mg "_law_web" 22
 f_l_ring:FnAt K mg "_law_ring" 23
 f_l_ends:FnAt K mg "_law_ends" 24
 f_l_reached:FnAt K mg "_law_reached" 25
 f_l_sheeted:FnAt K mg "_law_sheeted" 26
 f_l_turn:FnAt K mg "_law_turn" 27
 f_l_base:FnAt K mg "_law_base" 28
 f_l_due:FnAt K mg "_law_due" 29
 f_l_told:FnAt K mg "_law_told" 30
 f_l_right:FnAt K mg "_law_right" 31
 f_law:FnAt K mg "law" 32
variable {P:Program} {w:World} {K:PySem.W.Frag} {mg:Str->Option Value} {base:Heap}
theorem cal3 {x:Str} {i k:Nat} {N ps:List Str} {sp:Sp3} {t:TS3} (F:FnAt K mg x i) (h:∀xs G Q,sp xs G Q->t {nx:=fun _ G'=>Q .non G',rt:=Q} (jQp N xs) G)
  (d:∀(f:Addr) (cdv:Value) (A:Around) (outer:List Env) (s:Shared) (H:Hp) (E:XK),Room k (A.deeper (envOfC x (jJo (top i)) s.heap.objs.size f cdv))->(A.deeper (envOfC x (jJo (top i)) s.heap.objs.size f cdv)).units+20<cLine->N.Nodup->PSs3 (cxOf CX0 P w K mg base N x (jJo (top i)) f cdv A outer s H E).nox (jKv (top i)) t)
  (S:FnScope N ps (jJo (top i)):=by exact⟨rfl,rfl,rfl,by decide +kernel,rfl,by decide +kernel,by decide +kernel⟩)
  (b:∀(kV doc pm:Value) (an:Option Addr) (cdv ct:Value) (us:List Value),us.length=ps.length->bindArgs (PySem.W.fnOf x x (jUi (top i)) (jKv (top i)) (jJo (top i)) .none kV doc pm an cdv ct) ⟨us,[]⟩=pure (ps.zip us):=by (intro _ _ _ _ _ _ us hl;first | (apply ln1 hl;intros;rfl) | (apply ln2 hl;intros;rfl) | (apply ln3 hl;intros;rfl)))
  (m:Mono sp:=by (intro xs G Q Q' hq;(repeat' (first | (refine Exists.imp fun _=> ?_) | (refine And.imp_right ?_)));intro k;intros;apply hq;apply k<;>assumption))
  (n:∀xs G Q,sp xs G Q->xs.length=ps.length:=by (intro xs G Q h;repeat (first | exact (congrArg List.length h.1).trans rfl | obtain⟨_,h⟩:=h))):Cal P w K mg base (k+1) x ps sp:=by
 obtain⟨f,fd,a,F⟩:=F
 exact⟨⟨f,fd,fn3 F S fun cdv A outer s H E hr=>⟨t,d f cdv A outer s H E hr (qJo hr) S.nd,h⟩,a,F.kp,F.binds b⟩,m,n⟩
theorem calX3 {x:Str} {i k:Nat} {N ps:List Str} {sp:SpX} {t:XK3->TS3} (F:FnAt K mg x i) (h:∀xs G Q R,sp xs G Q R->t R {nx:=fun _ G'=>Q .non G',rt:=Q} (jQp N xs) G)
  (d:∀(f:Addr) (cdv:Value) (A:Around) (outer:List Env) (s:Shared) (H:Hp) (E:XK) (R:XK3),Room k (A.deeper (envOfC x (jJo (top i)) s.heap.objs.size f cdv))->(A.deeper (envOfC x (jJo (top i)) s.heap.objs.size f cdv)).units+20<cLine->N.Nodup->XR (cxOf (CXX P w) P w K mg base N x (jJo (top i)) f cdv A outer s H E) R->PSs3 (cxOf (CXX P w) P w K mg base N x (jJo (top i)) f cdv A outer s H E) (jKv (top i)) (t R))
  (m:kVv sp) (S:FnScope N ps (jJo (top i)):=by exact⟨rfl,rfl,rfl,by decide +kernel,rfl,by decide +kernel,by decide +kernel⟩)
  (b:∀(kV doc pm:Value) (an:Option Addr) (cdv ct:Value) (us:List Value),us.length=ps.length->bindArgs (PySem.W.fnOf x x (jUi (top i)) (jKv (top i)) (jJo (top i)) .none kV doc pm an cdv ct) ⟨us,[]⟩=pure (ps.zip us):=by (intro _ _ _ _ _ _ us hl;first | (apply ln1 hl;intros;rfl) | (apply ln2 hl;intros;rfl) | (apply ln3 hl;intros;rfl)))
  (n:∀xs G Q R,sp xs G Q R->xs.length=ps.length:=by (intro xs G Q R h;repeat (first | exact (congrArg List.length h.1).trans rfl | obtain⟨_,h⟩:=h))):CalX P w K mg base (k+1) x ps sp:=by
 obtain⟨f,fd,a,F⟩:=F
 exact⟨⟨f,fd,fnX F S fun cdv A outer s H E R hr hx=>⟨t R,d f cdv A outer s H E R hr (qJo hr) S.nd hx,fun xs G Q=>h xs G Q R⟩,a,F.kp,F.binds b⟩,m,n⟩
theorem jVe (T:Txt K mg):Cal P w K mg base 1 "first_comings" ["web","room"] jKr:=
 cal3 T.f_first_comings jUr fun _ _ _ _ _ _ _ hr hu nd=>
  (jJf (jJ2 (i:=2) nd (qJt (jJb 1) kVf))
   (jJf (jJ2 (i:=3) nd (jQ2 (jJa (jJb 1) jJd)))
   (jJf (kQ3 PassesOwn.never (kZo jZ1 (jJb 3)) (jJf (jJ2 (i:=4) nd (jQ2 jJd))
   (jJf (jKs PassesOwn.never rfl (jQz (jJb 3)) (jJm (i:=5) nd) (jJl (jKs PassesOwn.never rfl (qJm rfl T.n_enumerate rfl (jJa (e_ix (ix_F hu) (jJb 0) (jJb 5) (fun _ _=>rfl)) jJd)) (jQ0 rfl (jJp (jJm (i:=6) nd) (jJp (jJm (i:=7) nd) jKm))) (jJl (s_if (jQs (jZe hu) (e_ix (ix_F hu) (jJb 7) jJj (fun _ _=>rfl)) (jJb 2) (jJy _)) (jJf (jUp (jKu (jJa (jJb 5) (jJa (jJb 6) jJd))) (jU6 (jJb 2) (e_ix (ix_F hu) (jJb 7) jJj (fun _ _=>rfl)) (s_F hu)))
   (jJl (jUc (e_bm PySem.F.plainAttrs_list PySem.F.slot_list_append PySem.F.type_list_append jKx (jJb 4) (jJa (e_ix (ix_F hu) (jJb 7) jJj (fun _ _=>rfl)) jJd))))) jQq)))))
   (jJl (jJ2 (i:=3) nd (jJb 4))))))
   (jJl (jKw (jJb 2))))))
theorem kZ3 (T:Txt K mg):Cal P w K mg base 1 "ties" ["web"] jYa:=
 cal3 T.f_ties kQ8 fun _ _ _ _ _ _ _ hr hu nd=>
  (jJf (jJ2 (i:=1) nd (jQ2 jJd))
   (jJf (jKs PassesOwn.never rfl (qJm rfl T.n_enumerate rfl (jJa (jJb 0) jJd)) (jQ0 rfl (jJp (jJm (i:=2) nd) (jJp (jJm (i:=3) nd) jKm))) (jJl (jKs PassesOwn.never rfl (qJm rfl T.n_enumerate rfl (jJa (jJb 3) jJd)) (jQ0 rfl (jJp (jJm (i:=4) nd) (jJp (jJm (i:=5) nd) jKm))) (jJl (s_if (jQs (kZ8 hu) (jKu (jJa (jJb 2) (jJa (jJb 4) jJd))) (jJb 5) (jJy _)) (jJl (jUc (e_bm PySem.F.plainAttrs_list PySem.F.slot_list_append PySem.F.type_list_append jKx (jJb 1) (jJa (jKu (jJa (jKu (jJa (jJb 2) (jJa (jJb 4) jJd))) (jJa (jJb 5) jJd))) jJd)))) jQq)))))
   (jJl (jKw (jJb 1)))))
theorem jXp (T:Txt K mg):Cal P w K mg base 1 "is_own_back" ["turn"] jKi:=
 cal3 T.f_is_own_back jVd fun _ _ _ _ _ _ _ hr hu nd=>
  (jJl (jKw (jJr (qJ0 rfl) (by rfl) T.n_all rfl (jJa (jQr (mask:=[false,true]) rfl ⟨rfl,rfl,rfl,rfl,rfl,rfl,rfl⟩ (jJ6 rfl T.n_range (jJa (jJr jQo (by rfl) T.n_len PySem.boot_len (jJa (jJb 0) jJd)) jJd)) jJ4 (fun C fp s H=>(jJm (i:=1) nd)) (fun C fp s H=>jQa) (fun C fp s H=>(kVh (jZf hr.units) (e_ix (ix_F hu) (jJb 0) (e_ix (ix_F hu) (jJb 0) (jJb 1) (fun _ _=>rfl)) (fun _ _=>rfl)) (jJb 1) (jJy _)))) jJd))))
theorem kQb (T:Txt K mg):CalX P w K mg base 2 "tied_by" ["web","many","turns"] jQ4:=
 calX3 T.f_tied_by jY8 (m:=jZg) fun _ _ _ _ _ _ _ R hr hu nd hx=>
  (jJf (kJ7 (i:=3) (mask:=[false,false,false,false,false,false,false,false,false,false,false,true]) rfl nd ⟨rfl,rfl,rfl,rfl,rfl,rfl,rfl⟩ (jQz (e_op kUq (jJb 0) (jJb 1))) jJ4 (fun C fp s H=>(jJm (i:=11) nd)) (fun C fp s H=>jQa) (fun C fp s H=>(jKc kVr (by rfl) T.n_list rfl (jJa (jJb 11) jJd))))
   (jJf (jKs hx.own rfl (kY9 rfl T.n_zip rfl (jJa (jKe (kZ3 T) (hr.mono (by decide)) (jJa (jJb 0) jJd)) (jJa (jJb 2) jJd))) (jQ0 rfl (jJp (jJm (i:=4) nd) (jJp (jJm (i:=5) nd) jKm))) (jJf (jJ2 (i:=6) nd (e_ix (ix_F hu) (jJb 4) jJj (fun _ _=>rfl)))
   (jJf (jJ2 (i:=7) nd (e_ix (ix_F hu) (jJb 4) jJj (fun _ _=>rfl)))
   (jJf (s_if (PW3.pt (kVx (jQs (jZf hr.units) (jJb 6) (jJb 7) (jJy _)) (kQn (kZp (kV0 (jKe (jXp T) (hr.mono (by decide)) (jJa (jJb 5) jJd))))))) (jJl (kJ6 hx T.x_NoWeb rfl (jJa e_str jJd))) jQq)
   (jJl (jKs hx.own rfl (jJ6 rfl T.n_range (jJa (jJb 1) jJd)) (jJm (i:=8) nd) (jJf (jJ2 (i:=9) nd (e_op o_addF (e_ix (ix_F hu) (jJb 6) jJj (fun _ _=>rfl)) (e_op kUq (jJb 8) (jJr jQo (by rfl) T.n_len PySem.boot_len (jJa (jJb 0) jJd)))))
   (jJf (jJ2 (i:=10) nd (e_op o_addF (e_ix (ix_F hu) (jJb 7) jJj (fun _ _=>rfl)) (e_op kUq (e_ix (ix_F hu) (jJb 5) (jJb 8) (fun _ _=>rfl)) (jJr jQo (by rfl) T.n_len PySem.boot_len (jJa (jJb 0) jJd)))))
   (jJf (jUp (jKu (jJa (jJb 10) (jJa (e_ix (ix_F hu) (jJb 7) jJj (fun _ _=>rfl)) jJd))) (jU6 (e_ix (ix_F hu) (jJb 3) (jJb 9) (fun _ _=>rfl)) (e_ix (ix_F hu) (jJb 6) jJj (fun _ _=>rfl)) (s_F hu)))
   (jJl (jUp (jKu (jJa (jJb 9) (jJa (e_ix (ix_F hu) (jJb 6) jJj (fun _ _=>rfl)) jJd))) (jU6 (e_ix (ix_F hu) (jJb 3) (jJb 10) (fun _ _=>rfl)) (e_ix (ix_F hu) (jJb 7) jJj (fun _ _=>rfl)) (s_F hu)))))))))))))
   (jJl (jKw (jKc jQn (by rfl) T.n_tuple rfl (jJa (jQr (mask:=[false,false,false,false,false,false,false,false,false,false,false,true]) rfl ⟨rfl,rfl,rfl,rfl,rfl,rfl,rfl⟩ (jQz (jJb 3)) jJ4 (fun C fp s H=>(jJm (i:=11) nd)) (fun C fp s H=>jQa) (fun C fp s H=>(jKc jQn (by rfl) T.n_tuple rfl (jJa (jJb 11) jJd)))) jJd))))))
theorem kUj (T:Txt K mg):CalX P w K mg base 3 "spread" ["web","many","turns"] jUl:=
 calX3 T.f_spread jZ7 (m:=kJl) fun _ _ _ _ _ _ _ R hr hu nd hx=>
  (jJf (jJ2 (i:=3) nd (e_calX (kQb T) hx (hr.mono (by decide)) (jJa (jJb 0) (jJa (jJb 1) (jJa (jJb 2) jJd)))))
   (jJf (s_if (jQs o_lt (jJr kZi (by rfl) T.n_len PySem.boot_len (jJa (jKe (jVe T) (hr.mono (by decide)) (jJa (jJb 3) (jJa jJj jJd))) jJd)) (jJr kZi (by rfl) T.n_len PySem.boot_len (jJa (jJb 3) jJd)) (jJy _)) (jJl (kJ6 hx T.x_NoWeb rfl (jJa e_str jJd))) jQq)
   (jJl (jKw (jJb 3)))))
theorem kXr (T:Txt K mg):Cal P w K mg base 1 "_law_box" ["_law_script","_law_k"] jYb:=
 cal3 T.f_l_box kK6 fun _ _ _ _ _ _ _ hr hu nd=>
  (jJf (jJ2 (i:=2) nd (e_ix (ix_F hu) (e_op o_addS (jJb 0) (e_op o_mulF (jQ2 (jJa jJj jJd)) (e_op o_addF (jJb 1) jJj))) (jJb 1) (fun _ _=>rfl)))
   (jJl (jKw (jQ2 (jJa (e_op o_mulF (jJr c_abs (by rfl) T.n_abs rfl (jJa (jJb 2) jJd)) (jKc c_int (by rfl) T.n_int rfl (jJa (kVh o_ge (jJr c_abs (by rfl) T.n_abs rfl (jJa (jJb 2) jJd)) (e_op o_pow jJj jJj) (jJy _)) jJd))) (jJa (e_op jV5 (e_op o_mulF (e_op o_addF (e_op o_addF (e_op jV5 (jJb 2) jJj) (e_op o_mulF jJj (jJb 1))) jJj) jJj) jJj) (jJa jJj jJd)))))))
theorem jJ1 (T:Txt K mg):Cal P w K mg base 1 "_law_take" ["_law_box_here","_law_many"] jJq:=
 cal3 T.f_l_take kJa fun _ _ _ _ _ _ _ hr hu nd=>
  (jJf (s_if (jQs o_gt (e_ix (ix_F hu) (jJb 0) jJj (fun _ _=>rfl)) jJj (jJy _)) (jJf (jUp (jJr kYp (by rfl) T.n_divmod rfl (jJa (e_ix (ix_F hu) (jJb 0) jJj (fun _ _=>rfl)) (jJa (jJb 1) jJd))) (jQ0 rfl (jJp (jU6 (jJb 0) jJj (s_F hu)) (jJp (jJm (i:=2) nd) jKm))))
   (jJl (jKw (jJb 2)))) jQq)
   (jJf (jUp (e_op o_addF (e_ix (ix_F hu) (jJb 0) jJj (fun _ _=>rfl)) jJj) (jU6 (jJb 0) jJj (s_F hu)))
   (jJf (jJ2 (i:=3) nd (e_op jV5 (e_op o_mulF (e_op o_addF (e_ix (ix_F hu) (jJb 0) jJj (fun _ _=>rfl)) (e_op o_mulF jJj (e_ix (ix_F hu) (jJb 0) jJj (fun _ _=>rfl)))) (e_op o_addF jJj (e_ix (ix_F hu) (jJb 0) jJj (fun _ _=>rfl)))) jJj))
   (jJf (jUp (e_op jV5 (e_op o_addF (e_op o_mulF (jJb 3) (e_op o_addF (e_op jV5 (jJb 3) jJj) jJj)) (e_ix (ix_F hu) (jJb 0) jJj (fun _ _=>rfl))) jJj) (jU6 (jJb 0) jJj (s_F hu)))
   (jJl (jKw (e_op jV5 (e_op kY6 (e_op jV5 (e_op o_mulF (e_ix (ix_F hu) (jJb 0) jJj (fun _ _=>rfl)) (e_op o_addF (e_op jV5 (e_ix (ix_F hu) (jJb 0) jJj (fun _ _=>rfl)) jJj) jJj)) jJj) jJj) (jJb 1))))))))
theorem kJh (T:Txt K mg):Cal P w K mg base 1 "_law_joined" ["_law_halves"] jUf:=
 cal3 T.f_l_joined jYe fun _ _ _ _ _ _ _ hr hu nd=>
  (jJf (jJ2 (i:=1) nd e_dct)
   (jJf (jKs PassesOwn.never rfl (jJ6 rfl T.n_range (jJa (jJr jQo (by rfl) T.n_len PySem.boot_len (jJa (jJb 0) jJd)) jJd)) (jJm (i:=2) nd) (jJl (jKs PassesOwn.never rfl (kU0 rfl T.n_enumerate rfl (jJa (e_ix (ix_F hu) (jJb 0) (jJb 2) (fun _ _=>rfl)) jJd)) (jQ0 rfl (jJp (jJm (i:=3) nd) (jJp (jJm (i:=4) nd) jKm))) (jJl (jUp (jKu (jJa (jJb 2) (jJa (jJb 3) jJd))) (jU6 (jJb 1) (jJb 4) (s_F hu)))))))
   (jJf (jJ2 (i:=5) nd (jQ2 jJd))
   (jJf (jKs PassesOwn.never rfl (jQz (jJb 0)) (jJm (i:=6) nd) (jJl (jUc (e_bm PySem.F.plainAttrs_list PySem.F.slot_list_append PySem.F.type_list_append jKx (jJb 5) (jJa (jKc jQn (by rfl) T.n_tuple rfl (jJa (jQr (mask:=[false,false,false,false,false,false,false,true,true]) rfl ⟨rfl,rfl,rfl,rfl,rfl,rfl,rfl⟩ (jQz (jJb 6)) (kZa (jYq jJ4 jU5 (jYq jJ4 jU5 kZb kKj) (kU4 jU5 kKj))) (fun C fp s H=>(jQ0 rfl (jJp (jJm (i:=7) nd) (jJp (jJm (i:=8) nd) jKm)))) (fun C fp s H=>jQa) (fun C fp s H=>(e_ix (ix_F hu) (jJb 1) (jKu (jJa (jJb 7) (jJa (e_ix (ix_F hu) (jQ2 (jJa jJj (jJa jJj (jJa jJj jJd)))) (jJb 8) (fun _ _=>rfl)) jJd))) (fun _ _=>rfl)))) jJd)) jJd)))))
   (jJl (jKw (jKc jQn (by rfl) T.n_tuple rfl (jJa (jJb 5) jJd))))))))
theorem jXo (T:Txt K mg):Cal P w K mg base 2 "_law_doors_put" ["_law_box_here","_law_pairs","_law_many"] jQb:=
 cal3 T.f_l_doors_put jVc fun _ _ _ _ _ _ _ hr hu nd=>
  (jJf (kJ7 (i:=3) (mask:=[false,false,false,false,false,false,false,false,true,false]) rfl nd ⟨rfl,rfl,rfl,rfl,rfl,rfl,rfl⟩ (jJ6 rfl T.n_range (jJa (jJb 2) jJd)) jJ4 (fun C fp s H=>(jJm (i:=8) nd)) (fun C fp s H=>jQa) (fun C fp s H=>(jQ2 jJd)))
   (jJf (jKs PassesOwn.never rfl (kU0 rfl T.n_enumerate rfl (jJa (jJb 1) jJd)) (jQ0 rfl (jJp (jJm (i:=4) nd) (jJp (jQ0 rfl (jJp (jJm (i:=5) nd) (jJp (jJm (i:=6) nd) jKm))) jKm))) (jJf (jJ2 (i:=7) nd (kVg (jQs (jZf hr.units) (jJb 6) (jJb 2) (jJy _)) (jQ2 (jJa (jKu (jJa (jJb 5) (jJa jJj jJd))) jJd)) (jQ2 (jJa (jKu (jJa (jJb 5) (jJa jJj jJd))) (jJa (jKu (jJa (jJb 6) (jJa jJj jJd))) jJd)))))
   (jJl (jKs PassesOwn.never rfl (jQz (jJb 7)) (jQ0 rfl (jJp (jJm (i:=8) nd) (jJp (jJm (i:=9) nd) jKm))) (jJl (jUc (e_bm PySem.F.plainAttrs_list PySem.F.slot_list_insert PySem.F.type_list_insert kKd (e_ix (ix_F hu) (jJb 3) (jJb 8) (fun _ _=>rfl)) (jJa (jKe (jJ1 T) (hr.mono (by decide)) (jJa (jJb 0) (jJa (e_op o_addF (jJr jQo (by rfl) T.n_len PySem.boot_len (jJa (e_ix (ix_F hu) (jJb 3) (jJb 8) (fun _ _=>rfl)) jJd)) jJj) jJd))) (jJa (jKu (jJa (jJb 4) (jJa (jJb 9) jJd))) jJd)))))))))
   (jJl (jKw (jKe (kJh T) (hr.mono (by decide)) (jJa (jJb 3) jJd))))))
theorem kXp (T:Txt K mg):Cal P w K mg base 3 "_law_web" ["_law_box_here","_law_many","_law_most"] jVj:=
 cal3 T.f_l_web kK4 fun _ _ _ _ _ _ _ hr hu nd=>
  (jJf (jJ2 (i:=3) nd (e_op o_mulF (jQ2 (jJa jJj jJd)) (jJb 1)))
   (jJf (jJ2 (i:=4) nd (jQ2 jJd))
   (jJf (jKs PassesOwn.never rfl (kX9 rfl T.n_range (jJa jJj (jJa (jJb 1) jJd))) (jJm (i:=5) nd) (jJf (kJ7 (i:=6) (mask:=[false,false,false,false,false,false,false,false,false,false,false,true]) rfl nd ⟨rfl,rfl,rfl,rfl,rfl,rfl,rfl⟩ (jJ6 rfl T.n_range (jJa (jJb 5) jJd)) jJ4 (fun C fp s H=>(jJm (i:=11) nd)) (fun C fp s H=>(kY8 (jQs o_lt (e_ix (ix_F hu) (jJb 3) (jJb 11) (fun _ _=>rfl)) (jJb 2) (jJy _)))) (fun C fp s H=>(jJb 11)))
   (jJf (jUc (e_bm PySem.F.plainAttrs_list PySem.F.slot_list_append PySem.F.type_list_append jKx (jJb 4) (jJa (jKu (jJa (e_ix (ix_F hu) (jJb 6) (jKe (jJ1 T) (hr.mono (by decide)) (jJa (jJb 0) (jJa (jJr jQo (by rfl) T.n_len PySem.boot_len (jJa (jJb 6) jJd)) jJd))) (fun _ _=>rfl)) (jJa (jJb 5) jJd))) jJd)))
   (jJl (jKs PassesOwn.never rfl (jQz (e_ix (ix_F hu) (jJb 4) (e_un u_neg jJj) (fun _ _=>rfl))) (jJm (i:=7) nd) (jJl (jUp (e_op o_addF (e_ix (ix_F hu) (jJb 3) (jJb 7) (fun _ _=>rfl)) jJj) (jU6 (jJb 3) (jJb 7) (s_F hu)))))))))
   (jJf (jKs PassesOwn.never rfl (jJ6 rfl T.n_range (jJa (jKe (jJ1 T) (hr.mono (by decide)) (jJa (jJb 0) (jJa (e_op o_addF (jJb 1) jJj) jJd))) jJd)) (jJm (i:=8) nd) (jJf (jJ2 (i:=9) nd (jKu (jJa (jKe (jJ1 T) (hr.mono (by decide)) (jJa (jJb 0) (jJa (jJb 1) jJd))) (jJa (jKe (jJ1 T) (hr.mono (by decide)) (jJa (jJb 0) (jJa (e_op o_addF (jJb 1) jJj) jJd))) jJd))))
   (jJf (jJ2 (i:=10) nd (jQr (mask:=[false,false,false,false,false,false,false,true,false,false,false,false]) rfl ⟨rfl,rfl,rfl,rfl,rfl,rfl,rfl⟩ (jQz (jJb 9)) jJ4 (fun C fp s H=>(jJm (i:=7) nd)) (fun C fp s H=>(kY8 (jQs o_lt (jJb 7) (jJb 1) (jJy _)))) (fun C fp s H=>(jJb 7))))
   (jJl (s_if (kV0 (jJr (qJ0 rfl) (by rfl) T.n_all rfl (jJa (jQr (mask:=[false,false,false,false,false,false,false,true,false,false,false,false]) rfl ⟨rfl,rfl,rfl,rfl,rfl,rfl,rfl⟩ (jQz (jJb 10)) jJ4 (fun C fp s H=>(jJm (i:=7) nd)) (fun C fp s H=>jQa) (fun C fp s H=>(kVh (kZ8 hu) (e_op o_addF (e_ix (ix_F hu) (jJb 3) (jJb 7) (fun _ _=>rfl)) (e_bm PySem.F.plainAttrs_list PySem.F.slot_list_count PySem.F.type_list_count qJb (jJb 10) (jJa (jJb 7) jJd))) (jJb 2) (jJy _)))) jJd))) (jJf (jUc (e_bm PySem.F.plainAttrs_list PySem.F.slot_list_append PySem.F.type_list_append jKx (jJb 4) (jJa (jJb 9) jJd)))
   (jJl (jKs PassesOwn.never rfl (jQz (jJb 10)) (jJm (i:=7) nd) (jJl (jUp (e_op o_addF (e_ix (ix_F hu) (jJb 3) (jJb 7) (fun _ _=>rfl)) jJj) (jU6 (jJb 3) (jJb 7) (s_F hu))))))) jQq)))))
   (jJl (jKw (jKe (jXo T) (hr.mono (by decide)) (jJa (jJb 0) (jJa (jJb 4) (jJa (jJb 1) jJd))))))))))
theorem kUm (T:Txt K mg):Cal P w K mg base 1 "_law_ring" ["_law_many"] jUn:=
 cal3 T.f_l_ring kJb fun _ _ _ _ _ _ _ hr hu nd=>
  (jJl (jKw (jKc jQn (by rfl) T.n_tuple rfl (jJa (jQr (mask:=[false,true]) rfl ⟨rfl,rfl,rfl,rfl,rfl,rfl,rfl⟩ (jJ6 rfl T.n_range (jJa (jJb 0) jJd)) jJ4 (fun C fp s H=>(jJm (i:=1) nd)) (fun C fp s H=>jQa) (fun C fp s H=>(jKu (jJa (jKu (jJa (e_op jV5 (e_op o_addF (jJb 1) jJj) (jJb 0)) (jJa jJj jJd))) (jJa (jKu (jJa (e_op jV5 (e_op o_sub (jJb 1) jJj) (jJb 0)) (jJa jJj jJd))) jJd))))) jJd))))
theorem jV4 (T:Txt K mg):Cal P w K mg base 1 "_law_ends" ["_law_web_here"] jKz:=
 cal3 T.f_l_ends kJc fun _ _ _ _ _ _ _ hr hu nd=>
  (jJf (jJ2 (i:=1) nd (jQ2 jJd))
   (jJf (jKs PassesOwn.never rfl (jJ6 rfl T.n_range (jJa (jJr jQo (by rfl) T.n_len PySem.boot_len (jJa (jJb 0) jJd)) jJd)) (jJm (i:=2) nd) (jJl (jKs PassesOwn.never rfl (jJ6 rfl T.n_range (jJa (jJr jQo (by rfl) T.n_len PySem.boot_len (jJa (e_ix (ix_F hu) (jJb 0) (jJb 2) (fun _ _=>rfl)) jJd)) jJd)) (jJm (i:=3) nd) (jJl (s_if (jQs (kZ8 hu) (jKu (jJa (jJb 2) (jJa (jJb 3) jJd))) (e_ix (ix_F hu) (e_ix (ix_F hu) (jJb 0) (jJb 2) (fun _ _=>rfl)) (jJb 3) (fun _ _=>rfl)) (jJy _)) (jJl (jUc (e_bm PySem.F.plainAttrs_list PySem.F.slot_list_append PySem.F.type_list_append jKx (jJb 1) (jJa (jKu (jJa (jKu (jJa (jJb 2) (jJa (jJb 3) jJd))) (jJa (e_ix (ix_F hu) (e_ix (ix_F hu) (jJb 0) (jJb 2) (fun _ _=>rfl)) (jJb 3) (fun _ _=>rfl)) jJd))) jJd)))) jQq)))))
   (jJl (jKw (jJb 1)))))
theorem jZd (T:Txt K mg):Cal P w K mg base 1 "_law_reached" ["_law_web_here","_law_room"] jK5:=
 cal3 T.f_l_reached jXn fun _ _ _ _ _ _ _ hr hu nd=>
  (jJf (jJ2 (i:=2) nd (jQ2 (jJa (jJb 1) jJd)))
   (jJf (jJ2 (i:=3) nd jJj)
   (jJf (kQ3 PassesOwn.never (jQs o_lt (jJb 3) (jJr jQo (by rfl) T.n_len PySem.boot_len (jJa (jJb 2) jJd)) (jJy _)) (jJf (jKs PassesOwn.never rfl (jQz (e_ix (ix_F hu) (jJb 0) (e_ix (ix_F hu) (jJb 2) (jJb 3) (fun _ _=>rfl)) (fun _ _=>rfl))) (jQ0 rfl (jJp (jJm (i:=4) nd) (jJp (jJm (i:=5) nd) jKm))) (jJl (s_if (jQs (jZe hu) (jJb 4) (jJb 2) (jJy _)) (jJl (jUc (e_bm PySem.F.plainAttrs_list PySem.F.slot_list_append PySem.F.type_list_append jKx (jJb 2) (jJa (jJb 4) jJd)))) jQq)))
   (jJl (jJ2 (i:=3) nd (e_op o_addF (jJb 3) jJj)))))
   (jJl (jKw (jJb 2))))))
theorem jZc (T:Txt K mg):Cal P w K mg base 2 "_law_sheeted" ["_law_web_here","_law_turns","_law_many"] jK4:=
 cal3 T.f_l_sheeted jXm fun _ _ _ _ _ _ _ hr hu nd=>
  (jJf (kJ7 (i:=3) (mask:=[false,false,false,false,false,false,false,false,false,false,true,false]) rfl nd ⟨rfl,rfl,rfl,rfl,rfl,rfl,rfl⟩ (jJ6 rfl T.n_range (jJa (e_op o_mulF (jJb 2) (jJr jQo (by rfl) T.n_len PySem.boot_len (jJa (jJb 0) jJd))) jJd)) jJ4 (fun C fp s H=>(jJm (i:=10) nd)) (fun C fp s H=>jQa) (fun C fp s H=>(e_op o_mulF (jQ2 (jJa kVf jJd)) (jJr jQo (by rfl) T.n_len PySem.boot_len (jJa (e_ix (ix_F hu) (jJb 0) (e_op jV5 (jJb 10) (jJr jQo (by rfl) T.n_len PySem.boot_len (jJa (jJb 0) jJd))) (fun _ _=>rfl)) jJd)))))
   (jJf (jKs PassesOwn.never rfl (kU0 rfl T.n_enumerate rfl (jJa (jKe (jV4 T) (hr.mono (by decide)) (jJa (jJb 0) jJd)) jJd)) (jQ0 rfl (jJp (jJm (i:=4) nd) (jJp (jQ0 rfl (jJp (jJm (i:=5) nd) (jJp (jJm (i:=6) nd) jKm))) jKm))) (jJl (jKs PassesOwn.never rfl (jJ6 rfl T.n_range (jJa (jJb 2) jJd)) (jJm (i:=7) nd) (jJf (jJ2 (i:=8) nd (e_op o_addF (e_ix (ix_F hu) (jJb 5) jJj (fun _ _=>rfl)) (e_op o_mulF (jJb 7) (jJr jQo (by rfl) T.n_len PySem.boot_len (jJa (jJb 0) jJd)))))
   (jJf (jJ2 (i:=9) nd (e_op o_addF (e_ix (ix_F hu) (jJb 6) jJj (fun _ _=>rfl)) (e_op o_mulF (e_ix (ix_F hu) (e_ix (ix_F hu) (jJb 1) (jJb 4) (fun _ _=>rfl)) (jJb 7) (fun _ _=>rfl)) (jJr jQo (by rfl) T.n_len PySem.boot_len (jJa (jJb 0) jJd)))))
   (jJf (jUp (jKu (jJa (jJb 9) (jJa (e_ix (ix_F hu) (jJb 6) jJj (fun _ _=>rfl)) jJd))) (jU6 (e_ix (ix_F hu) (jJb 3) (jJb 8) (fun _ _=>rfl)) (e_ix (ix_F hu) (jJb 5) jJj (fun _ _=>rfl)) (s_F hu)))
   (jJl (jUp (jKu (jJa (jJb 8) (jJa (e_ix (ix_F hu) (jJb 5) jJj (fun _ _=>rfl)) jJd))) (jU6 (e_ix (ix_F hu) (jJb 3) (jJb 9) (fun _ _=>rfl)) (e_ix (ix_F hu) (jJb 6) jJj (fun _ _=>rfl)) (s_F hu))))))))))
   (jJl (jKw (jKc jQn (by rfl) T.n_tuple rfl (jJa (jQr (mask:=[false,false,false,false,false,false,false,false,false,false,false,true]) rfl ⟨rfl,rfl,rfl,rfl,rfl,rfl,rfl⟩ (jQz (jJb 3)) jJ4 (fun C fp s H=>(jJm (i:=11) nd)) (fun C fp s H=>jQa) (fun C fp s H=>(jKc jQn (by rfl) T.n_tuple rfl (jJa (jJb 11) jJd)))) jJd))))))
theorem kUk (T:Txt K mg):Cal P w K mg base 2 "_law_turn" ["_law_box_here","_law_many","_law_own"] jQu:=
 cal3 T.f_l_turn jZ8 fun _ _ _ _ _ _ _ hr hu nd=>
  (jJf (jJ2 (i:=3) nd (jQ2 jJd))
   (jJf (jKs PassesOwn.never rfl (jJ6 rfl T.n_range (jJa (jJb 1) jJd)) (jJm (i:=4) nd) (jJl (jUc (e_bm PySem.F.plainAttrs_list PySem.F.slot_list_insert PySem.F.type_list_insert kKd (jJb 3) (jJa (jKe (jJ1 T) (hr.mono (by decide)) (jJa (jJb 0) (jJa (e_op o_addF (jJb 4) jJj) jJd))) (jJa (jJb 4) jJd))))))
   (jJf (s_if (kZp (kZo jZ1 (jJb 2))) (jJl (jKw (jKc jQn (by rfl) T.n_tuple rfl (jJa (jJb 3) jJd)))) jQq)
   (jJf (jJ2 (i:=5) nd (jXf rfl T.n_list rfl T.n_range rfl (jJa (jJb 1) jJd)))
   (jJf (jKs PassesOwn.never rfl (kX8 rfl T.n_range (jJa jJj (jJa (e_op o_sub (jJb 1) jJj) (jJa jJj jJd)))) (jJm (i:=4) nd) (jJf (s_par (i:=6) (j:=7) rfl nd (by decide) (jJa (e_ix (ix_F hu) (jJb 3) (jJb 4) (fun _ _=>rfl)) (jJa (e_ix (ix_F hu) (jJb 3) (e_op o_addF (jJb 4) jJj) (fun _ _=>rfl)) jJd)))
   (jJf (jUp (jJb 7) (jU6 (jJb 5) (jJb 6) (s_F hu)))
   (jJl (jUp (jJb 6) (jU6 (jJb 5) (jJb 7) (s_F hu)))))))
   (jJl (jKw (jKc jQn (by rfl) T.n_tuple rfl (jJa (jJb 5) jJd)))))))))
theorem kUn (T:Txt K mg):Cal P w K mg base 4 "_law_base" ["_law_box_here"] jUo:=
 cal3 T.f_l_base kJd fun _ _ _ _ _ _ _ hr hu nd=>
  (jJf (s_if (jQs (jZf hr.units) (jKe (jJ1 T) (hr.mono (by decide)) (jJa (jJb 0) (jJa jJj jJd))) jJj (jJy _)) (jJl (jJ2 (i:=1) nd (jKe (kUm T) (hr.mono (by decide)) (jJa (e_op o_addF jJj (jKe (jJ1 T) (hr.mono (by decide)) (jJa (jJb 0) (jJa jJj jJd)))) jJd)))) (jJl (jJ2 (i:=1) nd (jKe (kXp T) (hr.mono (by decide)) (jJa (jJb 0) (jJa (e_op o_addF jJj (jKe (jJ1 T) (hr.mono (by decide)) (jJa (jJb 0) (jJa jJj jJd)))) (jJa (e_op o_addF jJj (jKe (jJ1 T) (hr.mono (by decide)) (jJa (jJb 0) (jJa jJj jJd)))) jJd)))))))
   (jJl (jKw (jKu (jJa (jJb 1) (jJa (e_op o_addF jJj (jKe (jJ1 T) (hr.mono (by decide)) (jJa (jJb 0) (jJa (jJr (kZh rfl) (by rfl) T.n_min rfl (jJa jJj (jJa (e_op kY6 jJj (jJr jQo (by rfl) T.n_len PySem.boot_len (jJa (jJb 1) jJd))) jJd))) jJd)))) jJd))))))
theorem kXq (T:Txt K mg):Cal P w K mg base 3 "_law_due" ["_law_web_here","_law_turns","_law_many"] jVk:=
 cal3 T.f_l_due kK5 fun _ _ _ _ _ _ _ hr hu nd=>
  (jJf (jKs PassesOwn.never rfl (kY9 rfl T.n_zip rfl (jJa (jJb 1) (jJa (jKe (jV4 T) (hr.mono (by decide)) (jJa (jJb 0) jJd)) jJd))) (jQ0 rfl (jJp (jJm (i:=3) nd) (jJp (jQ0 rfl (jJp (jJm (i:=4) nd) (jJp (jJm (i:=5) nd) jKm))) jKm))) (jJl (s_if (PW3.pt (kVx (jQs (jZf hr.units) (jJb 4) (jJb 5) (jJy _)) (kQn (jQs (kZ7 hr.units) (jQr (mask:=[false,false,false,false,false,false,false,true]) rfl ⟨rfl,rfl,rfl,rfl,rfl,rfl,rfl⟩ (jQz (jJb 3)) jJ4 (fun C fp s H=>(jJm (i:=7) nd)) (fun C fp s H=>jQa) (fun C fp s H=>(e_ix (ix_F hu) (jJb 3) (jJb 7) (fun _ _=>rfl)))) (jXf rfl T.n_list rfl T.n_range rfl (jJa (jJb 2) jJd)) (jJy _))))) (jJl (jKw kVf)) jQq)))
   (jJf (jJ2 (i:=6) nd (jKe (jZc T) (hr.mono (by decide)) (jJa (jJb 0) (jJa (jJb 1) (jJa (jJb 2) jJd)))))
   (jJl (jKw (kVg (jQs (jZf hr.units) (jJr jQo (by rfl) T.n_len PySem.boot_len (jJa (jKe (jZd T) (hr.mono (by decide)) (jJa (jJb 6) (jJa jJj jJd))) jJd)) (jJr jQo (by rfl) T.n_len PySem.boot_len (jJa (jJb 6) jJd)) (jJy _)) (jJb 6) kVf)))))
theorem kUl (T:Txt K mg):Cal P w K mg base 4 "_law_told" ["_law_web_here","_law_many","_law_turns"] jUm:=
 cal3 T.f_l_told jZ9 fun _ _ _ _ _ _ _ hr hu nd=>
  (jJf (jJ2 (i:=3) nd (jKu jJd))
   (jJf (s_try (i:=5) (cs:=["NoWeb"]) (fun _ _ h=>h) nd (kZs (sx_set (i:=3) nd (ex_cal (fun _ _ h=>h) (kUj T) (hr.mono (by decide)) (jJa (jJb 0) (jJa (jJb 1) (jJa (jJb 2) jJd)))))) (fun a=>(jJf (jJ2 (i:=4) nd (e_isiT (rel:=[("NoWeb",false)]) T.i_BadRow_Clash_NoDoor_NoMark_NoStone_NotWhole_TooMany (NmL.cons T.v_BadRow (NmL.cons T.v_Clash (NmL.cons T.v_NoDoor (NmL.cons T.v_NoMark (NmL.cons T.v_NoStone (NmL.cons T.v_NotWhole (NmL.cons T.v_TooMany NmL.nil))))))) (by decide) (jJb 5) T.n_isinstance))
   (jJl (s_if (PW3.pt (kVx (kV0 (kZf (rel:=[("NoWeb",true)]) T.i_NoWeb T.v_NoWeb (jJb 5) T.n_isinstance)) (kVx (kV0 (kZf (rel:=[("NoWeb",true)]) T.i_ValueError T.v_ValueError (jJb 5) T.n_isinstance)) (kQn (kZp (kZo jZ1 (jJb 4))))))) (jJl (jJ2 (i:=3) nd kVf)) jQq)))) T.t_WebError)
   (jJl (jKw (jJb 3)))))
theorem kQc (T:Txt K mg):Cal P w K mg base 5 "_law_right" ["_law_box_here"] jUz:=
 cal3 T.f_l_right jY9 fun _ _ _ _ _ _ _ hr hu nd=>
  (jJf (jUp (jKe (kUn T) (hr.mono (by decide)) (jJa (jJb 0) jJd)) (jQ0 rfl (jJp (jJm (i:=1) nd) (jJp (jJm (i:=2) nd) jKm))))
   (jJf (jJ2 (i:=3) nd (jKe (jV4 T) (hr.mono (by decide)) (jJa (jJb 1) jJd)))
   (jJf (jJ2 (i:=4) nd (jQ2 (jJa (jQr (mask:=[false,false,false,false,false,false,false,false,false,true,false,false]) rfl ⟨rfl,rfl,rfl,rfl,rfl,rfl,rfl⟩ (jQz (jJb 3)) jJ4 (fun C fp s H=>(jJm (i:=9) nd)) (fun C fp s H=>jQa) (fun C fp s H=>(kZe rfl rfl T.n_tuple rfl T.n_range (jJa (jJb 2) jJd)))) (jJa (jQr (mask:=[false,false,false,false,false,false,false,false,false,true,false,false]) rfl ⟨rfl,rfl,rfl,rfl,rfl,rfl,rfl⟩ (jQz (jJb 3)) jJ4 (fun C fp s H=>(jJm (i:=9) nd)) (fun C fp s H=>jQa) (fun C fp s H=>(e_revT (kZe rfl rfl T.n_tuple rfl T.n_range (jJa (jJb 2) jJd)) (p_some (e_un u_neg jJj))))) jJd))))
   (jJf (jKs PassesOwn.never rfl (jJ6 rfl T.n_range (jJa jJj jJd)) (jJm (i:=5) nd) (jJf (jJ2 (i:=6) nd (kVh (jZf hr.units) (jKe (jJ1 T) (hr.mono (by decide)) (jJa (jJb 0) (jJa jJj jJd))) jJj (jJy _)))
   (jJl (jUc (e_bm PySem.F.plainAttrs_list PySem.F.slot_list_append PySem.F.type_list_append jKx (jJb 4) (jJa (jQr (mask:=[false,false,false,false,false,false,false,false,false,false,true,true]) rfl ⟨rfl,rfl,rfl,rfl,rfl,rfl,rfl⟩ (jQz (jJb 3)) (kZa (jYq jJ4 jU5 (jYq jJ4 jU5 kZb kKj) (kU4 jU5 kKj))) (fun C fp s H=>(jQ0 rfl (jJp (jJm (i:=10) nd) (jJp (jJm (i:=11) nd) jKm)))) (fun C fp s H=>jQa) (fun C fp s H=>(jKe (kUk T) (hr.mono (by decide)) (jJa (jJb 0) (jJa (jJb 2) (jJa (e_and (jJb 6) (e_one (kVh (jZf hr.units) (jJb 10) (jJb 11) (jJy _)))) jJd)))))) jJd))))))
   (jJf (jKs PassesOwn.never rfl (jQz (jJb 4)) (jJm (i:=7) nd) (jJf (jJ2 (i:=8) nd (jKc kVr (by rfl) T.n_list rfl (jJa (jJb 7) jJd)))
   (jJl (s_if (PW3.pt (w_or (jQs (kZ7 hr.units) (jKe (kUl T) (hr.mono (by decide)) (jJa (jJb 1) (jJa (jJb 2) (jJa (jJb 7) jJd)))) (jKe (kXq T) (hr.mono (by decide)) (jJa (jJb 1) (jJa (jJb 7) (jJa (jJb 2) jJd)))) (jJy _)) (w_or1 (jQs (kZ7 hr.units) (jJb 7) (jJb 8) (jJy _))))) (jJl (jKw e_bl)) jQq))))
   (jJl (jKw e_bl)))))))
theorem ok_law (T:Txt K mg) {f:Addr} {fd:FuncData} (F:Fun K "law" "law" (top 32) f fd):Fn3 P w K mg base 6 f fd ["_law_script"] kQ1:=by
 have S:FnScope N_law ["_law_script"] (jJo (top 32)):=⟨rfl,rfl,rfl,by decide +kernel,rfl,by decide +kernel,by decide +kernel⟩
 refine fn3 F S fun cdv A outer s H E hr=>⟨kJ9,?_,kXe⟩
 have hu:=qJo hr
 have nd:=S.nd
 exact (jJl (jKw (jJr (qJ0 rfl) (by rfl) T.n_all rfl (jJa (jQr (mask:=[false,true]) rfl ⟨rfl,rfl,rfl,rfl,rfl,rfl,rfl⟩ (jJ6 rfl T.n_range (jJa (e_op o_addF jJj (jJr (kZh rfl) (by rfl) T.n_min rfl (jJa jJj (jJa (jJr jQo (by rfl) T.n_len PySem.boot_len (jJa (jJb 0) jJd)) jJd)))) jJd)) jJ4 (fun C fp s H=>(jJm (i:=1) nd)) (fun C fp s H=>jQa) (fun C fp s H=>(jKe (kQc T) (hr.mono (by decide)) (jJa (jKe (kXr T) (hr.mono (by decide)) (jJa (jJb 0) (jJa (jJb 1) jJd))) jJd)))) jJd))))
def kZt (K:PySem.W.Frag):Sp:=dn K 1 kQ1
theorem fn_at {K:PySem.W.Frag} {h:Heap} {mg:Str->Option Value} {x:Str} {i:Nat} {f:Addr} {oc:Value} {od an:Option Addr} {osl:Array (Option Value)} {kV doc pm cdv ct:Value} (X:K.In h) (G:h.Ns mainGlobals mg) (a:PySem.W.nsIn K mainGlobals x=some (some (.ref f)))
  (l:K.lookup f=some ⟨oc,od,.func (PySem.W.fnOf x x (jUi (top i)) (jKv (top i)) (jJo (top i)) .none kV doc pm an cdv ct),osl⟩) (c:PySem.W.codeIn K cdv x=true) (k:PySem.W.keepIn K (.ref f)=true):FnAt K mg x i:=⟨f,_,PySem.W.mg_of X G a,fun_mk l c k⟩
theorem all_mk {l:PySem.W.OpenLaw} {w:World} {K:PySem.W.Frag} {mg:Str->Option Value} {fa:Addr} (hfa:mg "law"=some (.ref fa)) (T:Txt K mg):
  ∃fd:FuncData,(∀(s:Shared) (v:Value),BindsTo s fd ⟨[v],[]⟩ [("_law_script",v)])/\∀base:Heap,K.In base->base.Ns mainGlobals mg->FnOk l.prog w K mg base CX0 6 fa fd ["_law_script"] (kZt K):=by
 obtain⟨f,fd,a,F⟩:=T.f_law
 cases hfa.symm.trans a
 refine⟨fd,fun s v=> ?_,fun base _ _=>ok_law T F⟩
 obtain⟨_,_,kV,doc,pm,an,cdv,ct,_,e,_⟩:=F.ex
 subst e
 exact .of_eq rfl
theorem fr_of {K:PySem.W.Frag} {H:Hp} {a:Addr} {xs:List V} (hO:Only H) (hS:SqL K H a xs):FrL K H a xs:=by
 rcases hS with h | h
 ·rcases h with h | ⟨ob,h⟩
  ·rcases hO a with z | ⟨o,ys,z⟩
   ·rw[z] at h;cases h
   ·rw[z] at h;cases h
  ·exact .inl ⟨ob,h⟩
 ·exact .inr h
theorem jQf {K:PySem.W.Frag} {H:Hp}:∀ns:List Int,Reps K H (jV9 ns) (ns.map V.int)
 | []=>rfl
 | n::ns=>⟨_,_,rfl,rfl,jQf ns⟩
theorem walk {l:PySem.W.OpenLaw} {q:Program} {loose:List Str} {XP:(Str->Option Value)->Heap->Prop} {YP:World->Heap->Prop} {d:DefRec} {K:Params->PySem.W.Frag} (hn:l.most=some 63) (hdf:d.params.defaults=[])
  (hY:∀(w:World) (h:Heap),YP w h->(K w.params).In h)
  (F:∀(w:World) (mg:Str->Option Value) (fa:Addr) (h:Heap),(K w.params).In h->h.Ns mainGlobals mg->mg d.name=some (.ref fa)->
   ∃fd:FuncData,(∀(s:Shared) (u:Value),BindsTo s fd ⟨[u],[]⟩ [("_law_script",u)])/\∀base:Heap,(K w.params).In base->base.Ns mainGlobals mg->FnOk l.prog w (K w.params) mg base CX0 6 fa fd ["_law_script"] (kZt (K w.params))):
  PySem.W.WalkO q loose XP YP l.row.toRowW d [] (fun f vs=>PySem.call f vs):=
 L2.walk_of (n:=63) (k:=6) (x:="_law_script") (CX:=fun _=>CX0) (sp:=fun w=>kZt (K w.params)) hn (by decide) hdf ⟨rfl,rfl,by decide,by decide⟩ hY F
  (fun _ _ a ns hl hO hS=>⟨rfl,[.scr (jV9 ns)],fun _=>none,⟨_,_,rfl,⟨a,_,rfl,fr_of hO hS,jQf ns⟩,rfl⟩,(fun _ _ h=>nomatch h),ns,rfl,hl,fun G' v H' _ _ r=>r⟩) fun _ _ _ _ _ z=>z
end W
def PySem.W.Fast.tw7124098836158534400 : Unit := ()
def PySem.W.Fast.tw7641713748545144938 : Unit := ()
def PySem.W.Fast.tw11928952341069059559 : Unit := ()
def PySem.W.Fast.tw1753301514142974956 : Unit := ()
def PySem.W.Fast.tw1897295718541971959 : Unit := ()
def PySem.W.Fast.tw11741801451852156973 : Unit := ()
def PySem.W.Fast.tw6343833833916090173 : Unit := ()
def PySem.W.Fast.tw12799796999312656092 : Unit := ()
def PySem.W.Fast.tw16760707102432761164 : Unit := ()
def PySem.W.Fast.tw11806566996043093221 : Unit := ()
def PySem.W.Fast.tw502662544727746089 : Unit := ()
def PySem.W.Fast.tw6737644232454219297 : Unit := ()
def PySem.W.Fast.tw6261560773745628923 : Unit := ()
def PySem.W.Fast.tw1097215100928274162 : Unit := ()
def PySem.W.Fast.tw8922788388994383341 : Unit := ()
def PySem.W.Fast.tw10443738530667795064 : Unit := ()
def PySem.W.Fast.tw14066672634712382746 : Unit := ()
def PySem.W.Fast.tw11265012181681889012 : Unit := ()
def PySem.W.Fast.tw11721182343152164559 : Unit := ()
def PySem.W.Fast.tw16503030289394615175 : Unit := ()
def PySem.W.Fast.tw16277341139735504167 : Unit := ()
def PySem.W.Fast.tw927582818692307027 : Unit := ()
def PySem.W.Fast.tw14077956781604850277 : Unit := ()
def PySem.W.Fast.tw5223527385404369303 : Unit := ()
def PySem.W.Fast.tw4721634437083419260 : Unit := ()
def PySem.W.Fast.tw6699565943374780863 : Unit := ()
def PySem.W.Fast.tw15348583258101984469 : Unit := ()
def PySem.W.Fast.tw7468496289243886659 : Unit := ()
def PySem.W.Fast.tw8071007243453261465 : Unit := ()
def PySem.W.Fast.tw7151142193911179673 : Unit := ()
def PySem.W.Fast.tw14506820000425602314 : Unit := ()
def PySem.W.Fast.tw9478139122761979614 : Unit := ()
def PySem.W.Fast.tw4401497796142929298 : Unit := ()
def PySem.W.Fast.tw16266071033339796149 : Unit := ()
def PySem.W.Fast.tw5544419697520987085 : Unit := ()
def PySem.W.Fast.tw15303659094478373101 : Unit := ()
def PySem.W.Fast.tw8151409225887599891 : Unit := ()
def PySem.W.Fast.tw12175812991846626260 : Unit := ()
def PySem.W.Fast.tw12243393212320286044 : Unit := ()
def PySem.W.Fast.tw3223899873273172791 : Unit := ()
def PySem.W.Fast.tw10925203349051671788 : Unit := ()
def PySem.W.Fast.tw9241648724606730699 : Unit := ()
def PySem.W.Fast.tw2819615812745372659 : Unit := ()
def PySem.W.Fast.tw16189441412297121296 : Unit := ()
def PySem.W.Fast.tw1643948426363927900 : Unit := ()
def PySem.W.Fast.tw17891813858204620647 : Unit := ()
def PySem.W.Fast.tw2496947285264345848 : Unit := ()
def PySem.W.Fast.tw982637002793508260 : Unit := ()
def PySem.W.Fast.tw7835601246400092712 : Unit := ()
def PySem.W.Fast.tw12136953993385919790 : Unit := ()
def PySem.W.Fast.tw2791919846179422598 : Unit := ()
def PySem.W.Fast.tw6952217405181919451 : Unit := ()
def PySem.W.Fast.tw37448706651987953 : Unit := ()
def PySem.W.Fast.tw6100584595271587140 : Unit := ()
def PySem.W.Fast.tw14140256513137440288 : Unit := ()
def PySem.W.Fast.tw5473595816264451207 : Unit := ()
def PySem.W.Fast.tw15379658509342393661 : Unit := ()
def PySem.W.Fast.tw10298716432920966168 : Unit := ()
def PySem.W.Fast.tw10033624508717261023 : Unit := ()
def PySem.W.Fast.tw1410048444617004616 : Unit := ()
def PySem.W.Fast.tw13684134732928215233 : Unit := ()
def PySem.W.Fast.tw12918384364390274957 : Unit := ()
def PySem.W.Fast.tw14679934356874268956 : Unit := ()
def PySem.W.Fast.tw3227446708522903254 : Unit := ()
def PySem.W.Fast.tw15830472590386483860 : Unit := ()
def PySem.W.Fast.tw10683091216889812044 : Unit := ()
def PySem.W.Fast.tw16856594587815552016 : Unit := ()
def PySem.W.Fast.tw62588998932805937 : Unit := ()
def PySem.W.Fast.tw4505176644861004199 : Unit := ()
def PySem.W.Fast.tw7489739794817242586 : Unit := ()
def PySem.W.Fast.tw1375215509329304798 : Unit := ()
def PySem.W.Fast.tw3097403654548264990 : Unit := ()
def PySem.W.Fast.tw14176716046544954197 : Unit := ()
def PySem.W.Fast.tw10860453361268437053 : Unit := ()
def PySem.W.Fast.tw4429776947838074236 : Unit := ()
def PySem.W.Fast.tw2239488319276855568 : Unit := ()
def PySem.W.Fast.tw11195125130703837139 : Unit := ()
def PySem.W.Fast.tw16943253164960499846 : Unit := ()
def PySem.W.Fast.tw8267859888381651522 : Unit := ()
def PySem.W.Fast.tw1549853805851234331 : Unit := ()
def PySem.W.Fast.tw17504442514361707678 : Unit := ()
def PySem.W.Fast.tw14466684824914502352 : Unit := ()
def PySem.W.Fast.tw10006051630009593668 : Unit := ()
def PySem.W.Fast.tw5388373722075767579 : Unit := ()
def PySem.W.Fast.tw12345175743290743404 : Unit := ()
def PySem.W.Fast.tw12063319819271540545 : Unit := ()
def PySem.W.Fast.tw44318088648995882 : Unit := ()
def PySem.W.Fast.tw17453472462430378306 : Unit := ()
def PySem.W.Fast.tw2496329928081554874 : Unit := ()
def PySem.W.Fast.tw1790766021722446721 : Unit := ()
def PySem.W.Fast.tw13050755562668842289 : Unit := ()
def PySem.W.Fast.tw5474534956966419917 : Unit := ()
def PySem.W.Fast.tw16919654351380421987 : Unit := ()
def PySem.W.Fast.tw8098377843109147883 : Unit := ()
def PySem.W.Fast.tw13281386580290557050 : Unit := ()
def PySem.W.Fast.tw7645639697195544293 : Unit := ()
def PySem.W.Fast.tw5786875919922466118 : Unit := ()
def PySem.W.Fast.tw8604793548095490080 : Unit := ()
def PySem.W.Fast.tw8611375398086967266 : Unit := ()
def PySem.W.Fast.tw11496130299107814137 : Unit := ()
def PySem.W.Fast.tw17380209431508207400 : Unit := ()
def PySem.W.Fast.tw921498208933245304 : Unit := ()
def PySem.W.Fast.tw9820961925791667766 : Unit := ()
def PySem.W.Fast.tw15656734923448161775 : Unit := ()
def PySem.W.Fast.tw5718893374354338592 : Unit := ()
def PySem.W.Fast.tw7455384210623061671 : Unit := ()
def PySem.W.Fast.tw15323550254131393454 : Unit := ()
def PySem.W.Fast.tw10008893735415904118 : Unit := ()
def PySem.W.Fast.tw10029341503309326859 : Unit := ()
def PySem.W.Fast.tw17345562768983520355 : Unit := ()
def PySem.W.Fast.tw9323871064467781009 : Unit := ()
def PySem.W.Fast.tw5199404058187941970 : Unit := ()
def PySem.W.Fast.tw9712469095081945570 : Unit := ()
def PySem.W.Fast.tw13387210253022254690 : Unit := ()
def PySem.W.Fast.tw15852927378593850304 : Unit := ()
def PySem.W.Fast.tw5252953751644258626 : Unit := ()
def PySem.W.Fast.tw16497075578948427659 : Unit := ()
def PySem.W.Fast.tw4267847506930920038 : Unit := ()
def PySem.W.Fast.tw10895845606354452449 : Unit := ()
def PySem.W.Fast.tw13245855417830943588 : Unit := ()
def PySem.W.Fast.tw6042304526393445024 : Unit := ()
def PySem.W.Fast.tw6108173522044979609 : Unit := ()
def PySem.W.Fast.tw9267336586390032873 : Unit := ()
def PySem.W.Fast.tw17244821789898390457 : Unit := ()
def PySem.W.Fast.tw7743592979091872788 : Unit := ()
def PySem.W.Fast.tw296638750578606461 : Unit := ()
def PySem.W.Fast.tw15466604113191263143 : Unit := ()
def PySem.W.Fast.tw747788513133786323 : Unit := ()
open PySem PySem.W PyProof.Rows
set_option maxRecDepth 100000 in
set_option maxHeartbeats 0 in
theorem PySem.Challenge.cw_stonewalker_k25_no_spreading_holds : PySem.Challenge.rw_stonewalker_k25_no_spreading.Holds := by
 w_on;o_law;k_head;(case hw=>w_witness2)
 k_fill
 refine W.walk (l:=PySem.Challenge.rw_stonewalker_k25_no_spreading) rfl rfl (fun w h Y=>PySem.W.kIn_of Y) ?F
 case F=>
  intro w mg fa h KX G hmg
  refine W.all_mk hmg ?T
  constructor
  iterate 12 (refine PySem.W.mg_none_of KX G ?_;k_is)
  (refine' L3.exc_mk KX G ?x0_a ?x0_q;(case x0_a=>k_is);(case x0_q=>k_exc))
  (refine' L3.rel1 ⟨?x1_D,?x1_vs,?x1_a,⟨?x1_k1,?x1_k2,?x1_k3,?x1_k4,?x1_k5,Option.isSome_iff_exists.mpr ((Option.bind_eq_some_iff.mp ?x1_k5).imp fun _ h=>h.1)⟩,.cons (.inl (PySem.W.mg_of KX G ?z1_BadRow)) (.cons (.inl (PySem.W.mg_of KX G ?z1_Clash)) (.cons (.inl (PySem.W.mg_of KX G ?z1_NoDoor)) (.cons (.inl (PySem.W.mg_of KX G ?z1_NoMark)) (.cons (.inl (PySem.W.mg_of KX G ?z1_NoStone)) (.cons (.inl (PySem.W.mg_of KX G ?z1_NotWhole)) (.cons (.inl (PySem.W.mg_of KX G ?z1_TooMany)) (.nil))))))),?x1_q⟩;(case x1_a=>unfold L3.CN;k_is);(case z1_BadRow=>k_is);(case z1_Clash=>k_is);(case z1_NoDoor=>k_is);(case z1_NoMark=>k_is);(case z1_NoStone=>k_is);(case z1_NotWhole=>k_is);(case z1_TooMany=>k_is);(case x1_k1=>k_is);(case x1_k2=>k_is);(case x1_k3=>k_is);(case x1_k4=>k_is);(case x1_k5=>k_is);(case x1_q=>kit_is))
  (refine' L3.clsv_own KX G ?x2_b;(case x2_b=>k_is))
  (refine' L3.clsv_own KX G ?x3_b;(case x3_b=>k_is))
  (refine' L3.clsv_own KX G ?x4_b;(case x4_b=>k_is))
  (refine' L3.clsv_own KX G ?x5_b;(case x5_b=>k_is))
  (refine' L3.clsv_own KX G ?x6_b;(case x6_b=>k_is))
  (refine' L3.clsv_own KX G ?x7_b;(case x7_b=>k_is))
  (refine' L3.clsv_own KX G ?x8_b;(case x8_b=>k_is))
  (refine' L3.rel1 ⟨?x9_D,?x9_vs,?x9_a,⟨?x9_k1,?x9_k2,?x9_k3,?x9_k4,?x9_k5,Option.isSome_iff_exists.mpr ((Option.bind_eq_some_iff.mp ?x9_k5).imp fun _ h=>h.1)⟩,.cons (.inl (PySem.W.mg_of KX G ?z9_NoWeb)) (.nil),?x9_q⟩;(case x9_a=>unfold L3.CN;k_is);(case z9_NoWeb=>k_is);(case x9_k1=>k_is);(case x9_k2=>k_is);(case x9_k3=>k_is);(case x9_k4=>k_is);(case x9_k5=>k_is);(case x9_q=>kit_is))
  (refine' L3.clsv_own KX G ?x10_b;(case x10_b=>k_is))
  (refine' L3.rel1 ⟨?x11_D,?x11_vs,?x11_a,⟨?x11_k1,?x11_k2,?x11_k3,?x11_k4,?x11_k5,Option.isSome_iff_exists.mpr ((Option.bind_eq_some_iff.mp ?x11_k5).imp fun _ h=>h.1)⟩,.cons (.inr ⟨PySem.W.mg_none_of KX G ?z11_ValueError,rfl⟩) (.nil),?x11_q⟩;(case x11_a=>unfold L3.CN;k_is);(case z11_ValueError=>k_is);(case x11_k1=>k_is);(case x11_k2=>k_is);(case x11_k3=>k_is);(case x11_k4=>k_is);(case x11_k5=>k_is);(case x11_q=>kit_is))
  (refine' L3.clsv_blt KX G ?x12_b rfl;(case x12_b=>k_is))
  (refine' L3.sub1 (L3.exsub_mk KX G ?x13_a ?x13_b ?x13_q);(case x13_a=>k_is);(case x13_b=>k_is);(case x13_q=>kts_exm))
  iterate 20 (refine' W.fn_at KX G ?a ?l ?c ?k;(case a=>k_is);(case l=>k_is);(case c=>k_is);(case k=>k_is))
