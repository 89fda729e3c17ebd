import PyProof.Rows.All
import Wide.All
import OpenK.AllK
import PySem.Challenge.RW_liftwave_k47_cut_texts
open Array(length_toList size_append toList_append)
open Bool(and_eq_true false_eq_true or_eq_true)
open Int(ediv_nonneg ediv_one emod_nonneg mul_assoc mul_left_comm mul_nonneg mul_one neg_le_neg neg_mul neg_neg one_mul toNat_natCast toNat_of_nonneg zero_add)
open List(all_cons all_eq_true any_eq_true append_assoc append_inj' append_nil cons_append dropLast_concat ext_getElem? filterMap_cons filterMap_cons_some filterMap_map filter_cons flatten_cons foldl_append foldl_cons forIn_cons forIn_nil forall_mem_append forall_mem_cons forall_mem_singleton getD_eq_getElem?_getD getElem?_append_left getElem?_append_right getElem?_cons_succ getElem?_drop getElem?_eq_getElem getElem?_eq_none getElem?_map getElem?_reverse getElem?_set getElem?_set_ne getElem?_set_self getElem_mem getLastD_concat length_append length_cons length_drop length_map length_nil length_range length_replicate length_reverse length_set length_singleton length_take length_zip lookup_cons map_append map_congr_left map_cons map_drop map_map map_nil map_reverse map_take mem_append mem_append_left mem_append_right mem_cons mem_cons_of_mem mem_cons_self mem_filter mem_filterMap mem_map mem_of_getElem? mem_of_mem_take mem_range mem_replicate mem_singleton nodup_append nodup_cons nodup_nil not_mem_nil of_mem_zip range_succ replicate_succ reverse_append reverse_cons set_cons_succ set_cons_zero size_toArray sum_append sum_cons take_length take_of_length_le zip_cons_cons)
open Nat(add_le_add add_zero le_of_eq le_of_lt le_succ le_trans lt_irrefl lt_of_lt_of_le lt_or_ge min_self mul_add mul_le_mul mul_le_mul_right mul_mod_left mul_pos ne_of_gt ne_of_lt pow_succ succ_mul two_pow_pos zero_le zero_mul)
open Option(getD_none map_some)
open PySem(boot_len)
open PySem.F(plainAttrs_list plainAttrs_str slot_str_join slot_str_split type_str_join type_str_split)
open PySem.Heap(get?_push_of_some get?_push_size get?_update_self lt_size size_push)
open PySem.W(Frag KeysLit binds_K callWith_K codeIn emptyDict excIn exmOne fnOf handedIn instObj isFn keepIn kia_one kitOne kitx_dict kitx_list kitx_tuple lookIn makesIn mapOf_K methodObj mg_none_of mg_of nsIn plainGet plainGet_of plainOver takerIn)
set_option Elab.async false
set_option compiler.extract_closed false
set_option bootstrap.genMatcherCode false
set_option linter.all false
set_option maxRecDepth 100000
set_option hygiene false
local macro_rules |`(tactic|kj_on)=>`(tactic| (intro X hP hw hK hc i pins s Y H E I hf st hg;subst hP hw hK))
set_option hygiene true
namespace L2
open PySem PySem.Spec PyProof.Rows
abbrev Key:=Sum Int Str
def Yjh:Key->Value->Bool
 | .inl k,v=>Value.isInt k v
 | .inr x,v=>Value.isStrOf x v
def Yno (w:World):Key->Int
 | .inl k=>hashInt k
 | .inr x=>hashStr w x
theorem Xct:∀{k:Key} {v:Value},Yjh k v=true->(∃i t,k=Sum.inl i/\v=Value.int i t)∨(∃x t,k=Sum.inr x/\v=Value.str x t)
 | .inl i,v,h=>by
  obtain⟨t,e⟩:=Value.isInt_shape (k:=i) (v:=v) h
  exact .inl ⟨i,t,rfl,e⟩
 | .inr x,v,h=>by
  obtain⟨t,e⟩:=Value.isStrOf_shape (x:=x) (v:=v) h
  exact .inr ⟨x,t,rfl,e⟩
theorem Yjg (a b:Int):decide ((Sum.inl a:Key)=Sum.inl b)=(a==b):=by
 by_cases e:a=b
 .subst e;simp
 .have h:¬ (Sum.inl a:Key)=Sum.inl b:=λq=>e (Sum.inl.inj q)
  rw[decide_eq_false h]
  exact (beq_eq_false_iff_ne.mpr e).symm
theorem Yjd (a b:Str):decide ((Sum.inr a:Key)=Sum.inr b)=decide (a=b):=by
 by_cases e:a=b
 .subst e;simp
 .have h:¬ (Sum.inr a:Key)=Sum.inr b:=λq=>e (Sum.inr.inj q)
  rw[decide_eq_false h,decide_eq_false e]
theorem Yjf (a:Int)(b:Str):decide ((Sum.inl a:Key)=Sum.inr b)=false:=decide_eq_false (λq=>nomatch q)
theorem Yje (a:Str)(b:Int):decide ((Sum.inr a:Key)=Sum.inl b)=false:=decide_eq_false (λq=>nomatch q)
def Xs6 (prog:Program)(w:World):PySem.KeyKind prog w Key where
 is:=Yjh
 hash:=Yno w
 inj := λv a b ha hb=>by
  rcases Xct ha with⟨i,t,rfl,rfl⟩ | ⟨x,t,rfl,rfl⟩
  .rcases Xct hb with⟨j,u,rfl,e⟩ | ⟨y,u,rfl,e⟩
   .injection e with e1 _;rw[e1]
   .exact nomatch e
  .rcases Xct hb with⟨j,u,rfl,e⟩ | ⟨y,u,rfl,e⟩
   .exact nomatch e
   .injection e with e1 _;rw[e1]
 byValue:=λk v h=>by
  rcases Xct h with⟨i,t,rfl,rfl⟩ | ⟨x,t,rfl,rfl⟩<;>rfl
 pyHash:=λhv h=>by
  rcases Xct hv with⟨i,t,rfl,rfl⟩ | ⟨x,t,rfl,rfl⟩
  .exact wpAny_pyHash_int h
  .exact wpAny_pyHash_str h
 eqBool:=λhu hv h=>by
  rcases Xct hu with⟨i,t,rfl,rfl⟩ | ⟨x,t,rfl,rfl⟩
  .rcases Xct hv with⟨j,u,rfl,rfl⟩ | ⟨y,u,rfl,rfl⟩
   .rw [Yjg]at h;exact wpAny_eqBool_int h
   .rw [Yjf]at h;exact SeqAt.EqAt.int_str i t y u _ _ _ _ h
  .rcases Xct hv with⟨j,u,rfl,rfl⟩ | ⟨y,u,rfl,rfl⟩
   .rw [Yje]at h;exact SeqAt.EqAt.str_int x t j u _ _ _ _ h
   .rw [Yjd]at h;exact wpAny_eqBool_str h
 «strs»:=λk x t v h=>by
  rcases Xct h with⟨i,u,rfl,e⟩ | ⟨y,u,rfl,e⟩
  .exact nomatch e
  .injection e with e1 _
   subst e1
   cases v<;>rfl
inductive V where
 |non |bl (b:Bool) |int (i:Int) |str (x:Str) |byt (b:Array UInt8) |flt (b:UInt64) |ref (a:Addr) |ty (n:String)
 deriving DecidableEq
def Xeb:V->Value->Prop
 | .non,u=>u=Value.none
 | .bl b,u=>u=Value.bool b
 | .int i,u=>∃t,u=Value.int i t
 | .str x,u=>∃t,u=Value.str x t
 | .byt b,u=>∃t,u=Value.bytes b t
 | .flt b,u=>∃t,u=Value.float b t
 | .ref a,u=>u=Value.ref a
 | .ty n,u=>u=Value.type n
abbrev Xb5:List V->List Value->Prop:=Paired Xeb
theorem Xb5.length {xs:List V}{us:List Value}(r:Xb5 xs us):xs.length=us.length:=Paired.length r
theorem Xb5.get:∀{xs:List V} {us:List Value} {i:Nat} {x:V},Xb5 xs us->xs[i]?=some x->∃u,us[i]?=some u/\Xeb x u
 |_,_,_,_,.nil,e=>by simp at e
 |_,_,0,_,.cons r _,e=>by simp at e;subst e;exact⟨_,rfl,r⟩
 |_,_,i+1,x,.cons _ t,e=>by
  obtain⟨u,h1,h2⟩:=Xb5.get (i:=i) (x:=x) t (by simpa using e)
  exact⟨u,by simpa using h1,h2⟩
theorem Xb5.set {x:V}{u:Value}(r:Xeb x u):∀{xs:List V} {us:List Value} (i:Nat),Xb5 xs us->Xb5 (xs.set i x) (us.set i u)
 |_,_,_,.nil=>.nil
 |_,_,0,.cons _ t=>.cons r t
 |_,_,i+1,.cons q t=>.cons q (Xb5.set r i t)
theorem Xb5.append:∀{xs ys:List V} {us ws:List Value},Xb5 xs us->Xb5 ys ws->Xb5 (xs++ys) (us++ws)
 |_,_,_,_,.nil,s=>s
 |_,_,_,_,.cons r t,s=>.cons r (Xb5.append t s)
theorem Xb5.take:∀{xs:List V} {us:List Value} (n:Nat),Xb5 xs us->Xb5 (xs.take n) (us.take n)
 |_,_,0,_=>.nil
 |_,_,_+1,.nil=>.nil
 |_,_,n+1,.cons r t=>.cons r (Xb5.take n t)
theorem Xb5.drop:∀{xs:List V} {us:List Value} (n:Nat),Xb5 xs us->Xb5 (xs.drop n) (us.drop n)
 |_,_,0,r=>r
 |_,_,_+1,.nil=>.nil
 |_,_,n+1,.cons _ t=>Xb5.drop n t
def Yag:Option V->Option Value->Prop
 |some v,some u=>Xeb v u
 |none,none=>True
 |_,_=>False
def KV {κ:Type}:List (κ×V)->List (κ×Value)->Prop:=Paired λ(p:κ×V) (q:κ×Value)=>p.1=q.1/\Xeb p.2 q.2
def kV:Key->V
 | .inl i=>.int i
 | .inr x=>.str x
inductive HO where
  |lst (xs:List V)
  |tup (xs:List V)
  |dK (kvs:List (Key×V)) |dT (kvs:List (List Key×V))
  |set (S:Int->Bool) (n:Nat)
  |ins (C dx:Addr) (fs:List (Str×V))
  |own (x:Addr)
  |xd (fs:List (Str×V))
  |met (f x:Addr)
  |rng (lo hi:Int)
  |frz (o:Obj) (u:HO)
  |tbl (ps:Array Value)
  |ext (φ:Heap->Prop)
abbrev Hp:=Addr->Option HO
def upd (H:Hp)(a:Addr)(o:HO):Hp:=λb=>if b=a then some o else H b
theorem Xay {H:Hp}{a:Addr}{o:HO}:upd H a o a=some o:=by unfold upd;rw[if_pos rfl]
theorem Xbv {H:Hp}{a b:Addr}{o:HO}(h:b≠a):upd H a o b=H b:=by unfold upd;rw[if_neg h]
theorem Xfi {H:Hp}{a b:Addr}{o:HO}(h:H a=some o)(h':H b=none):a≠b:=by
 intro e;subst e;rw[h]at h';cases h'
section
variable (P:Program)(w:World)
def Xf2 (H:Hp)(h:Heap)(a:Addr):HO->Prop
 | .lst xs=>xs.length<=sizeLine/\∃(its:List Value) (n:Nat),Xb5 xs its/\h.get? a=some {cls:=.type "list",data:=.seq its.toArray n}
 | .tup xs=>xs.length<=sizeLine/\∃its:List Value,Xb5 xs its/\IsTup h a its.toArray
 | .dK kvs=>kvs.length<=sizeLine/\(a==sysModules)=false/\∃vs,KV kvs vs/\h.DictOf (Xs6 P w) a vs
 | .dT kvs=>kvs.length<=sizeLine/\(a==sysModules)=false/\∃xs:List (List Key×Addr×Value),
   Paired (λ(p:List Key×V) (q:List Key×Addr×Value)=>p.1=q.1/\H q.2.1=some (.tup (p.1.map kV))/\Xeb p.2 q.2.2) kvs xs/\
   ∃o es ep,h.get? a=some o/\o.ExactDict/\o.data = .dict es ep/\es.toList=xs.map (entryOfKey (tupleKind (Xs6 P w)))/\(xs.map (·.1)).Nodup
 | .set S n=>h.SetOf (intKind P w) a S n
 | .ins C dx fs=>H dx=some (.own a)/\fs.length<=1000/\dx≠a/\h.get? a=some (instObj C dx)/\
   ∃mA,h.Ns1 dx mA/\(∀f,Yag (fs.lookup f) (mA f))/\PySem.Within mA (fs.map (·.1))
 | .own _=>∃o,h.get? a=some o
 | .xd fs=>∃mA,h.Ns1 a mA/\∀f,Yag (fs.lookup f) (mA f)
 | .rng lo hi=>∃t u v,h.get? a=some {cls:=.type "range",data:=.fields #[.int lo t,.int hi u,.int 1 v]}
 | .frz o u=>h.get? a=some o/\Xf2 H h a u
 | .tbl ps=>h.get? a=some {cls:=.none,data:=.fields ps}
 | .met f x=>h.get? a=some (methodObj (.ref f) (.ref x))
 | .ext φ=>φ h/\(∃o,h.get? a=some o)/\∀h1 h2:Heap,φ h1->(∀o,h1.get? a=some o->h2.get? a=some o)->φ h2
def HOk (H:Hp)(h:Heap):Prop:=∀a o,H a=some o->Xf2 P w H h a o
end
section
variable {P:Program}{w:World}{H H':Hp}{h h':Heap}{a:Addr}{o:HO}
theorem Xf2.lt (x:Xf2 P w H h a o):a<h.objs.size:=by
 cases o with
 |lst xs=>obtain⟨_,_,_,_,e⟩:=x;exact lt_size e
 |tup xs=>obtain⟨_,_,_,p⟩:=x;exact p.lt
 |dK kvs=>obtain⟨_,_,_,_,o,_,_,e,_⟩:=x;exact lt_size e
 |dT kvs=>obtain⟨_,_,_,_,o,_,_,e,_⟩:=x;exact lt_size e
 |set S n=>obtain⟨o,_,_,_,e,_⟩:=x;exact lt_size e
 |ins C dx fs=>obtain⟨_,_,_,e,_⟩:=x;exact lt_size e
 |own y=>obtain⟨_,e⟩:=x;exact lt_size e
 |xd fs=>obtain⟨_,⟨_,_,_,e,_⟩,_⟩:=x;exact lt_size e
 |rng lo hi=>obtain⟨_,_,_,e⟩:=x;exact lt_size e
 |frz ob u=>obtain⟨e,_⟩:=x;exact lt_size e
 |tbl ps=>exact lt_size (show h.get? a=some _ from x)
 |met f y=>exact lt_size (show h.get? a=some _ from x)
 |ext φ=>obtain⟨_,⟨_,e⟩,_⟩:=x;exact lt_size e
theorem Paired.mapP {α β:Type}{F G:α->β->Prop}:∀{l₁:List α} {l₂:List β},Paired F l₁ l₂->(∀a b,F a b->G a b)->Paired G l₁ l₂
 |_,_,.nil,_=>.nil
 |_,_,.cons r t,f=>.cons (f _ _ r) (Paired.mapP t f)
theorem Xf2.stay (x:Xf2 P w H h a o)(k:∀b u,(b=a∨H b=some (.own a))->h.get? b=some u->h'.get? b=some u)
  (ho:∀b,H b=some (.own a)->H' b=some (.own a)) (ht:∀b xs,H b=some (.tup xs)->H' b=some (.tup xs)):Xf2 P w H' h' a o:=by
 induction o with
 |lst xs=>obtain⟨z,its,n,r,e⟩:=x;exact⟨z,its,n,r,k _ _ (.inl rfl) e⟩
 |tup xs=>obtain⟨z,its,r,ob,e,c⟩:=x;exact⟨z,its,r,ob,k _ _ (.inl rfl) e,c⟩
 |dK kvs=>obtain⟨z,y,vs,r,ob,es,ep,e,c⟩:=x;exact⟨z,y,vs,r,ob,es,ep,k _ _ (.inl rfl) e,c⟩
 |dT kvs=>
  obtain⟨z,y,xs,r,ob,es,ep,e,c⟩:=x
  exact⟨z,y,xs,Paired.mapP r λp q z=>⟨z.1,ht _ _ z.2.1,z.2.2⟩,ob,es,ep,k _ _ (.inl rfl) e,c⟩
 |set S n=>obtain⟨ob,es,ep,t,e,c⟩:=x;exact⟨ob,es,ep,t,k _ _ (.inl rfl) e,c⟩
 |ins C dx fs=>
  obtain⟨d,z,ne,e,mA,⟨od,es,ep,e2,c⟩,r⟩:=x
  exact⟨ho _ d,z,ne,k _ _ (.inl rfl) e,mA,⟨od,es,ep,k _ _ (.inr d) e2,c⟩,r⟩
 |own y=>obtain⟨ob,e⟩:=x;exact⟨ob,k _ _ (.inl rfl) e⟩
 |xd fs=>obtain⟨mA,⟨od,es,ep,e,c⟩,r⟩:=x;exact⟨mA,⟨od,es,ep,k _ _ (.inl rfl) e,c⟩,r⟩
 |rng lo hi=>obtain⟨t,u,v,e⟩:=x;exact⟨t,u,v,k _ _ (.inl rfl) e⟩
 |frz ob u ih=>obtain⟨e,q⟩:=x;exact⟨k _ _ (.inl rfl) e,ih q⟩
 |tbl ps=>
  have e:h.get? a=some {cls:=.none,data:=.fields ps}:=x
  show h'.get? a=some {cls:=.none,data:=.fields ps}
  exact k a _ (.inl rfl) e
 |met f y=>
  have e:h.get? a=some (methodObj (.ref f) (.ref y)):=x
  show h'.get? a=some (methodObj (.ref f) (.ref y))
  exact k a _ (.inl rfl) e
 |ext φ=>obtain⟨p,⟨o,e⟩,st⟩:=x;exact⟨st _ _ p λo q=>k _ _ (.inl rfl) q,⟨o,k _ _ (.inl rfl) e⟩,st⟩
theorem HOk.lt (x:HOk P w H h)(e:H a=some o):a<h.objs.size:=(x a o e).lt
theorem HOk.fresh (x:HOk P w H h)(e:h.objs.size<=a):H a=none:=by
 cases q:H a with
 |none=>rfl
 |some u=>exact absurd (lt_of_lt_of_le (x.lt q) e) (lt_irrefl _)
theorem HOk.kept (x:HOk P w H h)(k:∀b u,h.get? b=some u->h'.get? b=some u):HOk P w H h':=λa o e=>
 (x a o e).stay (λb u _ q=>k b u q) (λ_ q=>q) λ_ _ q=>q
theorem HOk.laid (x:HOk P w H h)(k:∀b u,h.get? b=some u->h'.get? b=some u)(hp:h.objs.size<=a)(new:Xf2 P w (upd H a o) h' a o):HOk P w (upd H a o) h':=λb u e=>by
 have hn:=x.fresh hp
 by_cases hb:b=a
 .subst hb;rw[Xay]at e;cases e;exact new
 .rw [Xbv hb]at e
  exact (x b u e).stay (λc v _ q=>k c v q) (λc q=>by rw[Xbv (Xfi q hn)];exact q) λc xs q=>by rw[Xbv (Xfi q hn)];exact q
end
def Rd (H:Hp)(a:Addr)(u:HO):Prop:=H a=some u∨∃o,H a=some (.frz o u)
theorem Rd.ok {P:Program}{w:World}{H:Hp}{h:Heap}{a:Addr}{u:HO}(r:Rd H a u)(x:HOk P w H h):Xf2 P w H h a u:=by
 rcases r with r | ⟨o,r⟩
 .exact x a u r
 .obtain ⟨_,q⟩:=x a _ r
  exact q
def Mut:Option HO->Prop
 |some (.lst _)=>True
 |some (.dK _)=>True
 |some (.dT _)=>True
 |some (.set _ _)=>True
 |some (.ins _ _ _)=>True
 |some (.ext _)=>True
 |_=>False
section
variable {P:Program}{w:World}{H:Hp}{h h':Heap}{x e:Addr}{o':HO}
theorem HOk.write (ok:HOk P w H h)(mu:Mut (H x))(he:e=x∨H e=some (.own x))(k:∀b u,b≠e->h.get? b=some u->h'.get? b=some u)(heo:∃u,h'.get? e=some u)
  (new:Xf2 P w (upd H x o') h' x o'):HOk P w (upd H x o') h':=λb u q=>by
 have nown:∀c y,H c=some (.own y)->c≠x:=λc y r z=>by subst z;rw[r]at mu;exact mu
 have ntup:∀c xs,H c=some (.tup xs)->c≠x:=λc xs r z=>by subst z;rw[r]at mu;exact mu
 by_cases hb:b=x
 .subst hb;rw[Xay]at q;cases q;exact new
 .rw [Xbv hb]at q
  by_cases hbe:b=e
  .have q':H b=some (.own x):=by
    rcases he with z |z
    .exact absurd (hbe.trans z) hb
    .rw [hbe];exact z
   rw[q]at q';cases q'
   obtain⟨v,hv⟩:=heo
   exact⟨v,by rw[hbe];exact hv⟩
  .refine (ok b u q).stay (λc v hc r=>k c v ?_ r) (λc r=>by rw[Xbv (nown c b r)];exact r) λc xs r=>by rw[Xbv (ntup c xs r)];exact r
   rcases hc with rfl |hc
   .exact hbe
   .rintro rfl
    rcases he with z |z
    .exact nown c b hc z
    .rw [hc]at z;cases z;exact hb rfl
end
structure Un (fs ex:List Addr) (H H':Hp) (h h':Heap):Prop where
 keep:∀b o,h.get? b=some o->H b=none->b∉fs->b∉ex->h'.get? b=some o
 slot:∀b o,h.get? b=some o->H b=none->b∈fs->b∉ex->∃sl,h'.get? b=some {o with slots:=sl}
 free:∀b o,h.get? b=some o->H b=none->b∉ex->H' b=none
 there:∀b o,h.get? b=some o->b∉ex->∃o',h'.get? b=some o'
 tups:∀b xs,H b=some (.tup xs)->H' b=some (.tup xs)
 frzs:∀b o u,H b=some (.frz o u)->H' b=some (.frz o u)
 tbls:∀b ps,H b=some (.tbl ps)->∃more,H' b=some (.tbl (ps++more))
section
variable {fs fs' ex ex':List Addr}{H H1 H2:Hp}{h h1 h2 h':Heap}{a x e:Addr}{o:HO}
theorem Un.any (u:Un fs ex H H1 h h1){b:Addr}{ob:Obj}(q:h.get? b=some ob)(n:H b=none)(hx:b∉ex):∃sl,h1.get? b=some {ob with slots:=sl}:=by
 by_cases hb:b∈fs
 .exact u.slot b ob q n hb hx
 .exact ⟨ob.slots,u.keep b ob q n hb hx⟩
theorem Un.kept (k:∀b u,h.get? b=some u->h'.get? b=some u):Un fs ex H H h h':=
 ⟨λb ob q _ _ _=>k b ob q,λb ob q _ _ _=>⟨ob.slots,k b ob q⟩,λ_ _ _ n _=>n,λb ob q _=>⟨ob,k b ob q⟩,λ_ _ q=>q,λ_ _ _ q=>q,λ_ ps q=>⟨#[],by rw[q];simp⟩⟩
theorem Un.refl:Un fs ex H H h h:=Un.kept λ_ _ q=>q
theorem Un.laid (k:∀b u,h.get? b=some u->h'.get? b=some u)(hp:h.objs.size<=a)(hn:H a=none):Un fs ex H (upd H a o) h h' where
 keep:=λb u q _ _ _=>k b u q
 slot:=λb u q _ _ _=>⟨u.slots,k b u q⟩
 free:=λb u q n _=>by rw[Xbv (ne_of_lt (lt_of_lt_of_le (lt_size q) hp))];exact n
 there:=λb u q _=>⟨u,k b u q⟩
 tups:=λb xs q=>by rw[Xbv (Xfi q hn)];exact q
 frzs:=λb u xs q=>by rw[Xbv (Xfi q hn)];exact q
 tbls:=λb ps q=>⟨#[],by rw[Xbv (Xfi q hn),q];simp⟩
theorem Un.write (mu:Mut (H x))(he:e=x∨H e=some (.own x))(k:∀b u,b≠e->h.get? b=some u->h'.get? b=some u)(heo:∃u,h'.get? e=some u):Un fs ex H (upd H x o) h h':=by
 have hx:∀b,H b=none->b≠x:=λb n z=>by subst z;rw[n]at mu;exact mu
 have hb:∀b,H b=none->b≠e:=λb n z=>by
  subst z
  rcases he with r |r
  .exact hx b n r
  .rw [n]at r;cases r
 have hm:∀b u,H b=some u->¬ Mut (some u)->b≠x:=λb u q nm z=>by subst z;rw[q]at mu;exact nm mu
 refine⟨λb u q n _ _=>k b u (hb b n) q,λb u q n _ _=>⟨u.slots,k b u (hb b n) q⟩,λb u q n _=>by rw[Xbv (hx b n)];exact n,λb u q _=>?_,
  λb xs q=>by rw[Xbv (hm b _ q λz=>z)];exact q,λb u xs q=>by rw[Xbv (hm b _ q λz=>z)];exact q,λb ps q=>⟨#[],by rw[Xbv (hm b _ q λz=>z),q];simp⟩⟩
 by_cases hbe:b=e
 .subst hbe;exact heo
 .exact ⟨u,k b u hbe q⟩
end
def trk (h:Heap)(H:Hp):List Addr:=(List.range h.objs.size).filter λa=>(H a).isSome
def Yby (h:Heap)(H:Hp):Heap:=PySem.W.hideAll h (trk h H)
theorem Xy1 (h:Heap)(H:Hp):(Yby h H).objs.size=h.objs.size:=PySem.W.hideAll_size _ _
theorem Ybx {h:Heap}{H:Hp}{b:Addr}{o:Obj}(e:h.get? b=some o)(n:H b=none):(Yby h H).get? b=some o:=
 PySem.W.hideAll_get _ e λhm=>by
  have q:(H b).isSome=true:=(mem_filter.mp hm).2
  rw[n]at q;simp at q
theorem Yfu {h:Heap}{H:Hp}{b:Addr}{o:Obj}(e:(Yby h H).get? b=some o):h.get? b=some o/\H b=none:=by
 have e':h.get? b=some o:=PySem.W.of_hideAll (trk h H) e
 refine⟨e',?_⟩
 cases q:H b with
 |none=>rfl
 |some x=>
  have hm:b∈trk h H:=mem_filter.mpr ⟨mem_range.mpr (lt_size e'),by simp[q]⟩
  have z:(Yby h H).get? b=none:=PySem.W.hideAll_none (trk h H) hm
  rw[z]at e;cases e
def Yg7 (g h:Heap)(L:Addr):List (Addr×Obj):=(List.range h.objs.size).filterMap λa=>if a=L∨(g.get? a).isSome=true then none else (h.get? a).map λo=>(a,o)
def Xi0 (g h:Heap)(L d:Addr):List (Addr×Obj):=(Yg7 g h L).filter λp=>decide (p.1≠d)
structure Mod (K:Frag) (mg:Str->Option Value) (base:Heap):Prop where
 kin:K.In base
 glob:base.Ns mainGlobals mg
 blt:∃mb,base.Ns builtinsNs mb/\∀x:Str,x ≠ "__name__"->mb x=bootBuiltins x
 nolimit:base.NoLimit
structure Cx where
 prog:Program
 w:World
 K:Frag
 mg:Str->Option Value
 base:Heap
 A:Around
 N:List Str
 s₀:Shared
 H₀:Hp
 env:Env
 outer:List Env
 stack:List Env
 ex:List Addr
 fn:Str->Bool
 calm:Bool
 pn:List (Addr×Obj)
 xe:Value->Shared->Prop
def frs (l:List Env):List Addr:=l.filterMap (·.frame)
abbrev Cx.fs (X:Cx):List Addr:=frs X.outer
def Vis (sc:Scope)(x:Str):Prop:=sc.names.lookup x=some .local∨sc.names.lookup x=some .cell∨sc.names.lookup x=some .free
def Loc (sc:Scope)(x:Str):Prop:=sc.names.lookup x=some .local∨sc.names.lookup x=some .cell
def Ynd (env:Env)(h:Heap)(m:Str->Option Value)(x:Str)(u:Value):Prop:=
 (env.kindOf x=some .local/\m x=some u)∨((env.kindOf x=some .cell∨env.kindOf x=some .free)/\∃c,env.cells.lookup x=some c/\h.IsCell c (some u))
structure Cx.Ok (X:Cx):Prop where
 mod:Mod X.K X.mg X.base
 kind:X.env.scope.kind = .function
 glob:X.env.globals=mainGlobals
 blt:X.env.builtins=builtinsNs
 above:X.s₀.heap.objs.size<=X.env.locals
 inj:∀x y c,X.env.cells.lookup x=some c->X.env.cells.lookup y=some c->x=y
 has:∀x,(X.env.kindOf x=some .cell∨X.env.kindOf x=some .free)->∃c,X.env.cells.lookup x=some c
 cab:∀x c,X.fn x=true->X.env.cells.lookup x=some c->X.s₀.heap.objs.size<=c
 hd:X.calm=true->X.A.handled=none
 frames:X.A.frames=some X.stack
 stk:X.stack=X.outer∨(X.stack=X.env::X.outer/\X.env.frame=some X.env.locals)
 exf:∀b∈X.ex,b≠X.env.locals/\∀x c,X.env.cells.lookup x=some c->c≠b
 bs:∀b o,X.base.get? b=some o->X.s₀.heap.get? b=some o/\X.H₀ b=none
 bsz:X.base.objs.size<=X.s₀.heap.objs.size
 noex:∀b o,X.base.get? b=some o->b∉X.ex
 exfs:∀b∈X.ex,b∉X.fs
 funs:X.s₀.heap.FunFrames X.base X.outer
 frf:∀b∈X.fs,X.H₀ b=none
structure Inv (X:Cx) (pins:List (Addr×Obj)) (Y:List (Option V)) (H:Hp) (s:Shared):Prop where
 ok:X.Ok
 os:s.os=X.s₀.os
 bare:AllBare s.gens
 base:Un X.fs X.ex X.H₀ H X.s₀.heap s.heap
 loc:∃m,s.heap.Ns X.env.locals m/\∀(i:Nat) (x:Str) (v:V),X.N[i]?=some x->Y[i]?=some (some v)->Vis X.env.scope x->∃u,Xeb v u/\Ynd X.env s.heap m x u
 cell:∀x c,X.env.cells.lookup x=some c->∃v,s.heap.IsCell c v
 free:H X.env.locals=none
 freeC:∀x c,X.env.cells.lookup x=some c->H c=none
 pin:∀p∈X.pn++pins,s.heap.get? p.1=some p.2/\H p.1=none/\p.1≠X.env.locals/\p.1∉X.fs/\∀v,p.2.data≠.cell v
 hok:HOk X.prog X.w H s.heap
 len:Y.length=X.N.length
section
variable {X:Cx}{pins:List (Addr×Obj)}{Y:List (Option V)}{H H':Hp}{s:Shared}{h':Heap}
theorem Cx.Ok.nofr (ok:X.Ok){b:Addr}{o:Obj}(e:X.base.get? b=some o):b∉X.fs:=λhb=>by
 have:=(ok.funs.mem hb).1
 rw[e]at this;cases this
theorem Inv.bs (I:Inv X pins Y H s):∀b o,X.base.get? b=some o->s.heap.get? b=some o/\H b=none:=λb o e=>
 ⟨I.base.keep b o (I.ok.bs b o e).1 (I.ok.bs b o e).2 (I.ok.nofr e) (I.ok.noex b o e),I.base.free b o (I.ok.bs b o e).1 (I.ok.bs b o e).2 (I.ok.noex b o e)⟩
theorem Inv.bk (I:Inv X pins Y H s):∀b o,X.base.get? b=some o->s.heap.get? b=some o:=λb o e=>(I.bs b o e).1
theorem Inv.mod (I:Inv X pins Y H s):Mod X.K X.mg X.base:=I.ok.mod
theorem Inv.kIn (I:Inv X pins Y H s):X.K.In s.heap:=I.ok.mod.kin.keeps I.bk
theorem Inv.nolimit (I:Inv X pins Y H s):s.heap.NoLimit:=I.ok.mod.nolimit.keeps I.bk
theorem Inv.lt (I:Inv X pins Y H s):X.env.locals<s.heap.objs.size:=let⟨_,hn,_⟩:=I.loc;hn.lt
theorem Inv.sz (I:Inv X pins Y H s):X.s₀.heap.objs.size<=s.heap.objs.size:=le_trans I.ok.above (le_of_lt I.lt)
theorem Inv.nofs (I:Inv X pins Y H s){a:Addr}(h:s.heap.objs.size<=a):a∉X.fs:=λhb=>by
 obtain⟨_,o,ho,_⟩:=I.ok.funs.mem hb
 exact absurd (lt_of_lt_of_le (lt_size ho) (le_trans I.sz h)) (lt_irrefl _)
theorem Inv.cne (I:Inv X pins Y H s):∀x c,X.env.cells.lookup x=some c->c≠X.env.locals:=λx c e z=>by
 obtain⟨v,o,ho,hd⟩:=I.cell x c e
 obtain⟨m,⟨o',es,ep,ho',hd',_⟩,_⟩:=I.loc
 rw[z,ho']at ho;cases ho;rw[hd']at hd;cases hd
theorem Inv.funs (I:Inv X pins Y H s):s.heap.FunFrames X.base X.outer:=by
 have all:∀(l:List Env),(∀b∈frs l,b∈X.fs)->X.s₀.heap.FunFrames X.base l->s.heap.FunFrames X.base l:=by
  intro l
  induction l with
  |nil=>intro _ _;trivial
  |cons env r ih=>
   intro hs hl
   obtain⟨hk,⟨L,o,hf,hn,ho,hd⟩,hr⟩:=hl
   have hL:L∈X.fs:=hs L (by unfold frs;rw[filterMap_cons,hf];exact mem_cons_self)
   obtain⟨sl,e⟩:=I.base.slot L o ho (I.ok.frf L hL) hL λz=>I.ok.exfs L z hL
   exact⟨hk,⟨L,_,hf,hn,e,hd⟩,ih (λb hb=>hs b (by unfold frs;rw[filterMap_cons,hf];exact mem_cons_of_mem _ hb)) hr⟩
 exact all X.outer (λ_ hb=>hb) I.ok.funs
theorem Inv.stack (I:Inv X pins Y H s):s.heap.FunFrames X.base X.stack:=by
 rcases I.ok.stk with e | ⟨e,hf⟩
 .rw [e];exact I.funs
 .rw [e]
  obtain⟨m,hn,_⟩:=I.loc
  refine .cons (by rw[I.ok.kind];decide) hf hn ?_ I.funs
  exact Heap.get?_none_of_le (le_trans I.ok.bsz I.ok.above)
theorem Inv.stkSub (I:Inv X pins Y H s):∀b∈frs X.stack,b∈X.env.locals::X.fs:=λb hb=>by
 rcases I.ok.stk with e | ⟨e,hf⟩
 .rw [e]at hb;exact mem_cons_of_mem _ hb
 .rw [e]at hb
  unfold frs at hb
  rw[filterMap_cons,hf]at hb
  exact hb
theorem Inv.stkFree (I:Inv X pins Y H s):∀b∈frs X.stack,H b=none:=λb hb=>by
 rcases mem_cons.mp (I.stkSub b hb) with e |hb
 .rw [e];exact I.free
 .obtain ⟨_,o,ho,_⟩:=I.ok.funs.mem hb
  exact I.base.free b o ho (I.ok.frf b hb) λz=>I.ok.exfs b z hb
theorem Inv.step {g':Array GenState}{t':Nat}{d':Drawn}{ch:List Addr}(I:Inv X pins Y H s)
  (hch:∀b∈ch,(b∈X.ex∨X.s₀.heap.objs.size<=b)/\b≠X.env.locals/\(∀x c,X.env.cells.lookup x=some c->c≠b)/\∀p∈X.pn++pins,p.1≠b)
  (keep:∀b o,b≠X.env.locals->b∉X.fs->b∉ch->s.heap.get? b=some o->H b=none->h'.get? b=some o)
  (slot:∀b o,b≠X.env.locals->b∈X.fs->b∉ch->s.heap.get? b=some o->H b=none->∃sl,h'.get? b=some {o with slots:=sl}) (free:∀b o,b∉ch->s.heap.get? b=some o->H b=none->H' b=none)
  (there:∀b o,b∉ch->s.heap.get? b=some o->∃o',h'.get? b=some o')
  (tups:∀b xs,H b=some (.tup xs)->H' b=some (.tup xs)) (frzs:∀b o u,H b=some (.frz o u)->H' b=some (.frz o u)) (tbls:∀b ps,H b=some (.tbl ps)->∃more,H' b=some (.tbl (ps++more)))
  (ns:∀m,s.heap.Ns X.env.locals m->h'.Ns X.env.locals m) (hok:HOk X.prog X.w H' h') (hg:AllBare g'):
  Inv X pins Y H' {s with heap:=h',gens:=g',drawn:=d',toks:=t'}:=by
 have neL:∀b o,X.s₀.heap.get? b=some o->b≠X.env.locals:=λb o e=>ne_of_lt (lt_of_lt_of_le (lt_size e) I.ok.above)
 have neC:∀b o,X.s₀.heap.get? b=some o->b∉X.ex->b∉ch:=λb o e hx hb=>by
  rcases (hch b hb).1 with z |z
  .exact hx z
  .exact absurd (lt_of_lt_of_le (lt_size e) z) (lt_irrefl _)
 have cellK:∀x c,X.env.cells.lookup x=some c->∀v,s.heap.IsCell c v->h'.IsCell c v:=λx c e v ⟨o,ho,hd⟩=>by
  have nch:c∉ch:=λz=>(hch c z).2.2.1 x c e rfl
  by_cases hc:c∈X.fs
  .obtain ⟨sl,q⟩:=slot c o (I.cne x c e) hc nch ho (I.freeC x c e)
   exact⟨_,q,hd⟩
  .exact ⟨o,keep c o (I.cne x c e) hc nch ho (I.freeC x c e),hd⟩
 refine⟨I.ok,I.os,hg,⟨λb o e n hb hx=>?_,λb o e n hb hx=>?_,λb o e n hx=>?_,λb o e hx=>?_,λb xs e=>tups b xs (I.base.tups b xs e),λb o xs e=>frzs b o xs (I.base.frzs b o xs e),λb ps e=>?_⟩,?_,λx c e=>?_,?_,λx c e=>?_,λp hp=>?_,hok,I.len⟩
 .exact keep b o (neL b o e) hb (neC b o e hx) (I.base.keep b o e n hb hx) (I.base.free b o e n hx)
 .obtain ⟨sl,e1⟩:=I.base.slot b o e n hb hx
  obtain⟨sl',e2⟩:=slot b _ (neL b o e) hb (neC b o e hx) e1 (I.base.free b o e n hx)
  exact⟨sl',e2⟩
 .obtain ⟨o',e1⟩:=I.base.there b o e hx
  exact free b o' (neC b o e hx) e1 (I.base.free b o e n hx)
 .obtain ⟨o',e1⟩:=I.base.there b o e hx
  exact there b o' (neC b o e hx) e1
 .obtain ⟨m1,e1⟩:=I.base.tbls b ps e
  obtain⟨m2,e2⟩:=tbls b _ e1
  exact⟨m1++m2,by rw[e2,Array.append_assoc]⟩
 .obtain ⟨m,hn,hl⟩:=I.loc
  refine⟨m,ns m hn,λi x v e1 e2 e3=>?_⟩
  obtain⟨u,r,l⟩:=hl i x v e1 e2 e3
  refine⟨u,r,?_⟩
  rcases l with l | ⟨k,c,e,z⟩
  .exact .inl l
  .exact .inr ⟨k,c,e,cellK x c e _ z⟩
 .obtain ⟨v,z⟩:=I.cell x c e
  exact⟨v,cellK x c e v z⟩
 .obtain ⟨m,⟨o,_,_,ho,_⟩,_⟩:=I.loc
  exact free _ o (λz=>(hch _ z).2.1 rfl) ho I.free
 .obtain ⟨v,o,ho,hd⟩:=I.cell x c e
  exact free c o (λz=>(hch c z).2.2.1 x c e rfl) ho (I.freeC x c e)
 .obtain ⟨e,n,ne,nf,d⟩:=I.pin p hp
  have nch:p.1∉ch:=λz=>(hch p.1 z).2.2.2 p hp rfl
  exact⟨keep p.1 p.2 ne nf nch e n,free p.1 p.2 nch e n,ne,nf,d⟩
theorem Inv.un {t':Nat}(I:Inv X pins Y H s)(u:Un X.fs [] H H' s.heap h')(hok:HOk X.prog X.w H' h'):Inv X pins Y H' {s with heap:=h',toks:=t'}:=by
 obtain⟨m,⟨o,es,ep,ho,r⟩,_⟩:=id I.loc
 obtain⟨sl,hL⟩:=u.any ho I.free (by simp)
 exact I.step (g':=s.gens) (d':=s.drawn) (ch:=[]) (λ_ z=>nomatch z) (λb o _ hb _ e n=>u.keep b o e n hb (by simp)) (λb o _ hb _ e n=>u.slot b o e n hb (by simp)) (λb o _ e n=>u.free b o e n (by simp)) (λb o _ e=>u.there b o e (by simp)) u.tups u.frzs u.tbls (λm' hm=>by
  obtain⟨o',es',ep',ho',r'⟩:=hm
  rw[ho]at ho';cases ho'
  exact⟨_,es',ep',hL,r'⟩) hok I.bare
theorem Inv.call {g':Array GenState}{t':Nat}{d':Drawn}{ch:List Addr}(I:Inv X pins Y H s)(u:Un (frs X.stack) ch H H' s.heap h')(hok:HOk X.prog X.w H' h')(hg:AllBare g')
  (hch:∀b∈ch,(b∈X.ex∨X.s₀.heap.objs.size<=b)/\b≠X.env.locals/\(∀x c,X.env.cells.lookup x=some c->c≠b)/\∀p∈X.pn++pins,p.1≠b):
  Inv X pins Y H' {s with heap:=h',gens:=g',drawn:=d',toks:=t'}:=by
 obtain⟨m,⟨o,es,ep,ho,r⟩,_⟩:=id I.loc
 obtain⟨sl,hL⟩:=u.any ho I.free λz=>(hch _ z).2.1 rfl
 exact I.step (ch:=ch) hch (λb o hL hb hc e n=>u.keep b o e n (λz=>(mem_cons.mp (I.stkSub b z)).elim hL hb) hc) (λb o _ _ hc e n=>u.any e n hc) (λb o hc e n=>u.free b o e n hc) (λb o hc e=>u.there b o e hc) u.tups u.frzs u.tbls (λm' hm=>by
  obtain⟨o',es',ep',ho',r'⟩:=hm
  rw[ho]at ho';cases ho'
  exact⟨_,es',ep',hL,r'⟩) hok hg
theorem Inv.turned {t':Nat}{it:Addr}(I:Inv X pins Y H s)(k:∀b o,b≠it->s.heap.get? b=some o->h'.get? b=some o)(hn:H it=none)(hL:it≠X.env.locals)
  (h1:it∈X.ex∨X.s₀.heap.objs.size<=it) (h2:∀x c,X.env.cells.lookup x=some c->c≠it) (h3:∀p∈X.pn++pins,p.1≠it):Inv X pins Y H {s with heap:=h',toks:=t'}:=by
 have nit:∀b u,H b=some u->b≠it:=λb u e z=>by rw[z,hn]at e;cases e
 refine I.step (g':=s.gens) (d':=s.drawn) (ch:=[it]) (λb hb=>?_) (λb o _ _ hc e _=>k b o (λz=>hc (by simp[z])) e) (λb o _ _ hc e _=>⟨o.slots,k b o (λz=>hc (by simp[z])) e⟩) (λ_ _ _ _ n=>n)
  (λb o hc e=>⟨o,k b o (λz=>hc (by simp[z])) e⟩) (λ_ _ e=>e) (λ_ _ _ e=>e) (λb ps e=>⟨#[],by rw[e];simp⟩) (λm hm=>?_) (λb u e=>?_) I.bare
 .have e:b=it:=by simpa using hb
  subst e
  exact⟨h1,hL,h2,h3⟩
 .obtain ⟨o,es,ep,ho,r⟩:=hm
  exact⟨o,es,ep,k _ o (Ne.symm hL) ho,r⟩
 .refine (I.hok b u e).stay (λc v hc q=>k c v ?_ q) (λ_ q=>q) λ_ _ q=>q
  rcases hc with z |z
  .rw [z];exact nit b u e
  .exact nit c _ z
theorem Inv.tok (I:Inv X pins Y H s)(t:Nat):Inv X pins Y H {s with toks:=t}:=I.un (h':=s.heap) (t':=t) Un.refl I.hok
theorem Inv.kept {t':Nat}(I:Inv X pins Y H s)(k:∀b u,s.heap.get? b=some u->h'.get? b=some u):Inv X pins Y H {s with heap:=h',toks:=t'}:=I.un (Un.kept k) (I.hok.kept k)
theorem Inv.laid {a:Addr}{o:HO}{t':Nat}(I:Inv X pins Y H s)(k:∀b u,s.heap.get? b=some u->h'.get? b=some u)(hp:s.heap.objs.size<=a)(new:Xf2 X.prog X.w (upd H a o) h' a o):
  Inv X pins Y (upd H a o) {s with heap:=h',toks:=t'}:=I.un (Un.laid k hp (I.hok.fresh hp)) (I.hok.laid k hp new)
theorem Inv.write {x e:Addr}{o:HO}{t':Nat}(I:Inv X pins Y H s)(mu:Mut (H x))(he:e=x∨H e=some (.own x))(k:∀b u,b≠e->s.heap.get? b=some u->h'.get? b=some u)(heo:∃u,h'.get? e=some u)
  (new:Xf2 X.prog X.w (upd H x o) h' x o):Inv X pins Y (upd H x o) {s with heap:=h',toks:=t'}:=I.un (Un.write mu he k heo) (I.hok.write mu he k heo new)
theorem Inv.pins_of {pins':List (Addr×Obj)}(I:Inv X pins Y H s)(h:∀p∈pins',s.heap.get? p.1=some p.2/\H p.1=none/\p.1≠X.env.locals/\p.1∉X.fs/\∀v,p.2.data≠.cell v):Inv X pins' Y H s:=
 ⟨I.ok,I.os,I.bare,I.base,I.loc,I.cell,I.free,I.freeC,λp hp=>(mem_append.mp hp).elim (λz=>I.pin p (mem_append_left _ z)) (h p),I.hok,I.len⟩
theorem Xpo {N:List Str}(hN:N.Nodup){i j:Nat}{x:Str}(a:N[i]?=some x)(b:N[j]?=some x):i=j:=by
 obtain⟨h1,e1⟩:=List.getElem?_eq_some_iff.mp a
 obtain⟨h2,e2⟩:=List.getElem?_eq_some_iff.mp b
 exact (List.getElem_inj hN).mp (e1.trans e2.symm)
theorem Xqg {M:Model}{A:Around}{E:Value->Shared->Prop}{i:Nat}{x:Str}{v:V}{u:Value}{Q:Unit->Shared->Prop}(I:Inv X pins Y H s)(hN:X.N.Nodup)(hi:X.N[i]?=some x)(hx:Loc X.env.scope x)(r:Xeb v u)
  (h:∀s',Inv X pins (Y.set i (some v)) H s'->(∃a,Heap.SameBut a s.heap s'.heap/\(a=X.env.locals∨X.env.cells.lookup x=some a))->Q () s') (hf:X.fn x=true∨X.env.scope.names.lookup x=some .local:=by first |exact .inl rfl |exact .inr rfl |assumption):wpAny M A (storeName X.env x u) Q E s:=by
 obtain⟨m,hn,hl⟩:=id I.loc
 have hcls:(X.env.scope.kind == .class || (X.env.scope.kind == .module && X.env.locals != X.env.globals))=false:=by rw[I.ok.kind];rfl
 have hiσ:i<Y.length:=by rw[I.len];exact (List.getElem?_eq_some_iff.mp hi).1
 have cne:=I.cne
 have tracked:∀{a:Addr} {h':Heap},(∃o,s.heap.get? a=some o/\H a=none)->Heap.SameBut a s.heap h'->HOk X.prog X.w H h':=λ{a h'} ha hs b ob e=>by
  obtain⟨_,_,hfree⟩:=ha
  refine (I.hok b ob e).stay (λc w' hc q=>(hs.2 c ?_).trans q) (λ_ q=>q) λ_ _ q=>q
  rintro rfl
  rcases hc with rfl |hc
  .rw [hfree]at e;cases e
  .rw [hfree]at hc;cases hc
 rcases hx with hk |hk
 .refine wpAny_storeName_local hk hn (λh' hn' hs=>?_) hcls
  obtain⟨oL,_,_,hoL,_⟩:=id hn
  refine h _ ⟨I.ok,I.os,I.bare,⟨λb o e n hb hx=>?_,λb o e n hb hx=>?_,I.base.free,λb o e hx=>?_,I.base.tups,I.base.frzs,I.base.tbls⟩,⟨_,hn',λj y v' e1 e2 e3=>?_⟩,λy c e=>?_,I.free,I.freeC,λp hp=>?_,tracked ⟨oL,hoL,I.free⟩ hs,by simpa using I.len⟩ ⟨_,hs,.inl rfl⟩
  .exact (hs.2 b (ne_of_lt (lt_of_lt_of_le (lt_size e) I.ok.above))).trans (I.base.keep b o e n hb hx)
  .obtain ⟨sl,e1⟩:=I.base.slot b o e n hb hx
   exact⟨sl,(hs.2 b (ne_of_lt (lt_of_lt_of_le (lt_size e) I.ok.above))).trans e1⟩
  .obtain ⟨o',e1⟩:=I.base.there b o e hx
   exact⟨o',(hs.2 b (ne_of_lt (lt_of_lt_of_le (lt_size e) I.ok.above))).trans e1⟩
  .by_cases hj:j=i
   .subst hj
    rw[hi]at e1;cases e1
    rw[getElem?_set_self hiσ]at e2
    cases e2
    exact⟨u,r,.inl ⟨hk,by simp⟩⟩
   .rw [getElem?_set_ne (Ne.symm hj)]at e2
    obtain⟨u',r',q⟩:=hl j y v' e1 e2 e3
    refine⟨u',r',?_⟩
    rcases q with⟨k,e⟩ | ⟨k,c,e,z⟩
    .refine .inl ⟨k,?_⟩
     have:y≠x:=λe=>hj (Xpo hN e1 (e▸hi))
     simp[this,e]
    .exact .inr ⟨k,c,e,z.sameBut hs (cne y c e)⟩
  .obtain ⟨w',z⟩:=I.cell y c e
   exact⟨w',z.sameBut hs (cne y c e)⟩
  .obtain ⟨e,n,ne,nf,d⟩:=I.pin p hp
   exact⟨(hs.2 p.1 ne).trans e,n,ne,nf,d⟩
 .have hfn:X.fn x=true:=by
   rcases hf with z |z
   .exact z
   .rw [z]at hk;cases hk
  obtain⟨c,hc⟩:=I.ok.has x (.inl hk)
  obtain⟨w',z⟩:=I.cell x c hc
  refine wpAny_storeName_cell I.ok.kind hk hc z (λh' hc' hs=>?_)
  obtain⟨oc,hoc,hocd⟩:=id z
  refine h {s with heap:=h'} ⟨I.ok,I.os,I.bare,⟨λb o e n hb hx=>?_,λb o e n hb hx=>?_,I.base.free,λb o e hx=>?_,I.base.tups,I.base.frzs,I.base.tbls⟩,⟨m,hn.sameBut hs (Ne.symm (cne x c hc)),λj y v' e1 e2 e3=>?_⟩,λy c' e=>?_,I.free,I.freeC,λp hp=>?_,tracked ⟨oc,hoc,I.freeC x c hc⟩ hs,by simpa using I.len⟩ ⟨c,hs,.inr hc⟩
  .exact (hs.2 b (ne_of_lt (lt_of_lt_of_le (lt_size e) (I.ok.cab x c hfn hc)))).trans (I.base.keep b o e n hb hx)
  .obtain ⟨sl,e1⟩:=I.base.slot b o e n hb hx
   exact⟨sl,(hs.2 b (ne_of_lt (lt_of_lt_of_le (lt_size e) (I.ok.cab x c hfn hc)))).trans e1⟩
  .obtain ⟨o',e1⟩:=I.base.there b o e hx
   exact⟨o',(hs.2 b (ne_of_lt (lt_of_lt_of_le (lt_size e) (I.ok.cab x c hfn hc)))).trans e1⟩
  .by_cases hj:j=i
   .subst hj
    rw[hi]at e1;cases e1
    rw[getElem?_set_self hiσ]at e2
    cases e2
    exact⟨u,r,.inr ⟨.inl hk,c,hc,hc'⟩⟩
   .rw [getElem?_set_ne (Ne.symm hj)]at e2
    obtain⟨u',r',q⟩:=hl j y v' e1 e2 e3
    refine⟨u',r',?_⟩
    rcases q with q | ⟨k,c',e,z'⟩
    .exact .inl q
    .refine .inr ⟨k,c',e,z'.sameBut hs ?_⟩
     rintro rfl
     exact hj (Xpo hN e1 (I.ok.inj _ _ _ e hc▸hi))
  .by_cases hcc:c'=c
   .subst hcc;exact⟨_,hc'⟩
   .obtain ⟨w2,z2⟩:=I.cell y c' e
    exact⟨w2,z2.sameBut hs hcc⟩
  .obtain ⟨e,n,ne,nf,d⟩:=I.pin p hp
   refine⟨(hs.2 p.1 ?_).trans e,n,ne,nf,d⟩
   intro q
   rw[q,hoc]at e
   have q':oc=p.2:=Option.some.inj e
   exact d w' (by rw[<- q'];exact hocd)
theorem Xlx {M:Model}{A:Around}{E:Value->Shared->Prop}{i:Nat}{x:Str}{v:V}{u:Value}{Q:Unit->Shared->Prop}(I:Inv X pins Y H s)(hN:X.N.Nodup)(hi:X.N[i]?=some x)(hx:Loc X.env.scope x)(r:Xeb v u)
  (h:∀s',Inv X pins (Y.set i (some v)) H s'->Q () s') (hf:X.fn x=true∨X.env.scope.names.lookup x=some .local:=by first |exact .inl rfl |exact .inr rfl |assumption):wpAny M A (storeName X.env x u) Q E s:=
 Xqg I hN hi hx r (λs' I' _=>h s' I') hf
theorem Inv.call' {s':Shared}{ch:List Addr}(I:Inv X pins Y H s)(ho:s'.os=s.os)(u:Un (frs X.stack) ch H H' s.heap s'.heap)(hok:HOk X.prog X.w H' s'.heap)(hg:AllBare s'.gens)
  (hch:∀b∈ch,(b∈X.ex∨X.s₀.heap.objs.size<=b)/\b≠X.env.locals/\(∀x c,X.env.cells.lookup x=some c->c≠b)/\∀p∈X.pn++pins,p.1≠b):Inv X pins Y H' s':=by
 obtain⟨h',g',d',t',o'⟩:=s'
 have e:o'=s.os:=ho
 subst e
 exact I.call (g':=g') (t':=t') (d':=d') u hok hg hch
end
abbrev XK:=Value->Option Addr->Hp->Prop
abbrev St:=List (Option V)
abbrev VK:=V->Hp->Prop
abbrev TE:=St->Hp->VK->Prop
abbrev TT:=St->Hp->(Bool->Hp->Prop)->Prop
abbrev TA:=St->Hp->(List V->Hp->Prop)->Prop
structure Ends where
 nx:St->Hp->Prop
 rt:VK
 bk:St->Hp->Prop:=λ_ _=>False
 ct:St->Hp->Prop:=λ_ _=>False
abbrev TS:=Ends->St->Hp->Prop
def EP (X:Cx)(pins:List (Addr×Obj))(Y:St)(Q:VK)(u:Value)(s':Shared):Prop:=∃v H',Inv X pins Y H' s'/\Xeb v u/\Q v H'
def TP (X:Cx)(pins:List (Addr×Obj))(Y:St)(Q:Bool->Hp->Prop)(b:Bool)(s':Shared):Prop:=∃H',Inv X pins Y H' s'/\Q b H'
def AP (X:Cx)(pins:List (Addr×Obj))(Y:St)(Q:List V->Hp->Prop)(us:List Value)(s':Shared):Prop:=∃vs H',Inv X pins Y H' s'/\Xb5 vs us/\Q vs H'
def SP (X:Cx)(pins:List (Addr×Obj))(D:Ends)(f:Flow)(s':Shared):Prop:=
 match f with
 | .next=>∃Y' H',Inv X pins Y' H' s'/\D.nx Y' H'
 | .brk=>∃Y' H',Inv X pins Y' H' s'/\D.bk Y' H'
 | .cont=>∃Y' H',Inv X pins Y' H' s'/\D.ct Y' H'
 | .ret u=>∃v Y' H',Inv X pins Y' H' s'/\Xeb v u/\D.rt v H'
def PE (X:Cx)(e:Expr)(t:TE):Prop:=
 ∀(pins:List (Addr×Obj)) (s:Shared) (Y:St) (H:Hp) (Q:VK),Inv X pins Y H s->t Y H Q->wpAny (model X.prog X.w) X.A (eval e X.env) (EP X pins Y Q) X.xe s
def PT (X:Cx)(e:Expr)(t:TT):Prop:=
 ∀(pins:List (Addr×Obj)) (s:Shared) (Y:St) (H:Hp) (Q:Bool->Hp->Prop),Inv X pins Y H s->t Y H Q->wpAny (model X.prog X.w) X.A (isTrue e X.env (eval e X.env)) (TP X pins Y Q) X.xe s
def PW (X:Cx)(e:Expr)(t:TT):Prop:=
 ∀(whole:Sem Value) (pins:List (Addr×Obj)) (s:Shared) (Y:St) (H:Hp) (Q:Bool->Hp->Prop),Inv X pins Y H s->t Y H Q->wpAny (model X.prog X.w) X.A (isTrue e X.env whole) (TP X pins Y Q) X.xe s
theorem PW.pt {X:Cx}{e:Expr}{t:TT}(h:PW X e t):PT X e t:=h _
def PA (X:Cx)(es:List Expr)(t:TA):Prop:=
 ∀(pos:Pos) (pins:List (Addr×Obj)) (s:Shared) (Y:St) (H:Hp) (Q:List V->Hp->Prop),Inv X pins Y H s->t Y H Q->wpAny (model X.prog X.w) X.A (spliced (backTo pos (starEach es X.env))) (AP X pins Y Q) X.xe s
def PS (X:Cx)(st:Stmt)(t:TS):Prop:=
 ∀(pins:List (Addr×Obj)) (s:Shared) (Y:St) (H:Hp) (D:Ends),Inv X pins Y H s->t D Y H->wpAny (model X.prog X.w) X.A (exec st X.env) (SP X pins D) X.xe s
def PSs (X:Cx)(st:List Stmt)(t:TS):Prop:=
 ∀(pins:List (Addr×Obj)) (s:Shared) (Y:St) (H:Hp) (D:Ends),Inv X pins Y H s->t D Y H->wpAny (model X.prog X.w) X.A (execs st X.env) (SP X pins D) X.xe s
theorem thn {α:Type}{t:Sem α}{Q Q':α->Shared->Prop}{M:Model}{A:Around}{E:Value->Shared->Prop}{s:Shared}(h:wpAny M A t Q E s)(hQ:∀a s,Q a s->Q' a s):wpAny M A t Q' E s:=wpAny_mono h hQ λ_ _ x=>x
section
variable {X:Cx}
def Xnr (i:Nat):TE:=λY H Q=>∃v,Y[i]?=some (some v)/\Q v H
def tC (v:V):TE:=λ_ H Q=>Q v H
theorem Yir {i:Nat}{x:Str}{pos:Pos}(hN:X.N[i]?=some x)(hv:Vis X.env.scope x)(hd:(x==("__debug__":Str))=false:=by decide)(hcd:(x==("__classdict__":Str))=false:=by decide):PE X (.Name x pos) (Xnr i):=by
 intro pins s Y H Q I h
 obtain⟨v,e,h⟩:=h
 obtain⟨m,hn,hl⟩:=I.loc
 obtain⟨u,r,l⟩:=hl i x v hN e hv
 have fin:EP X pins Y Q u s:=⟨v,H,I,r,h⟩
 rcases l with⟨hk,hm⟩ | ⟨hk,c,hc,hcell⟩
 .exact wpAny_Name (wpAny_loadName_local I.ok.kind hk hn hm fin) hd
 .rcases hk with hk |hk
  .exact wpAny_Name (wpAny_loadName_cell I.ok.kind hk hc hcell fin) hd
  .exact wpAny_Name (wpAny_loadName_free I.ok.kind hk hc hcell fin hcd) hd
theorem Xal {i j pos}:PE X (.Constant (.int i) j pos) (tC (.int i)):=λ_ _ _ H _ I h=>wpAny_Constant_int ⟨.int i,H,I.tok _,⟨_,rfl⟩,h⟩
theorem Xmy {b j pos}:PE X (.Constant (.bool b) j pos) (tC (.bl b)):=λ_ _ _ H _ I h=>Constant_bool ⟨.bl b,H,I,rfl,h⟩
theorem Xx4 {j pos}:PE X (.Constant .none j pos) (tC .non):=λ_ _ _ H _ I h=>Constant_none ⟨.non,H,I,rfl,h⟩
theorem Xb0 {x j pos}:PE X (.Constant (.str x) j pos) (tC (.str x)):=λ_ _ _ H _ I h=>Calls.Constant_str ⟨.str x,H,I.tok _,⟨_,rfl⟩,h⟩
def Gl (X:Cx)(x:Str):Prop:=X.env.kindOf x=some .globalImplicit
theorem Xky {E:Value->Shared->Prop}{pins:List (Addr×Obj)}{s:Shared}{Y:St}{H:Hp}{x:Str}{u:Value}{pos:Pos}{Q:Value->Shared->Prop}(I:Inv X pins Y H s)(hg:Gl X x)(hm:X.mg x=some u)(h:Q u s)
  (hd:(x==("__debug__":Str))=false:=by decide):wpAny (model X.prog X.w) X.A (eval (.Name x pos) X.env) Q E s:=
 Calls.Name_function_global I.ok.kind hg (Calls.loadGlobal_global (by rw[I.ok.glob];exact I.mod.glob.keeps I.bk) hm h) hd
theorem Xkf {E:Value->Shared->Prop}{pins:List (Addr×Obj)}{s:Shared}{Y:St}{H:Hp}{x:Str}{u:Value}{pos:Pos}{Q:Value->Shared->Prop}(I:Inv X pins Y H s)(hg:Gl X x)(hm:X.mg x=none)(hv:bootBuiltins x=some u)(h:Q u s)
  (hn:x ≠ "__name__":=by decide) (hd:(x==("__debug__":Str))=false:=by decide):wpAny (model X.prog X.w) X.A (eval (.Name x pos) X.env) Q E s:=by
 obtain⟨mb,h1,h2⟩:=I.mod.blt
 exact Calls.Name_function_global I.ok.kind hg (Calls.loadGlobal_builtin (by rw[I.ok.glob];exact I.mod.glob.keeps I.bk) hm (by rw[I.ok.blt];exact h1.keeps I.bk) ((h2 x hn).trans hv) h) hd
theorem Xjo {x:Str}{v:V}{u:Value}{pos:Pos}(hg:Gl X x)(hm:X.mg x=some u)(r:Xeb v u)(hd:(x==("__debug__":Str))=false:=by decide):PE X (.Name x pos) (tC v):=
 λ_ _ _ H _ I h=>Xky I hg hm ⟨v,H,I,r,h⟩ hd
theorem Xel {x:Str}{v:V}{u:Value}{pos:Pos}(hg:Gl X x)(hm:X.mg x=none)(hv:bootBuiltins x=some u)(r:Xeb v u)(hn:x ≠ "__name__":=by decide)(hd:(x==("__debug__":Str))=false:=by decide):PE X (.Name x pos) (tC v):=
 λ_ _ _ H _ I h=>Xkf I hg hm hv ⟨v,H,I,r,h⟩ hn hd
variable {a b:Expr}{ta tb:TE}{pos:Pos}
def PC (X:Cx)(op:CmpOp)(a b:Expr)(t:TE):Prop:=
 ∀(pins:List (Addr×Obj)) (s:Shared) (Y:St) (H:Hp) (Q:VK),Inv X pins Y H s->t Y H Q->
  wpAny (model X.prog X.w) X.A (eval a X.env) (λv s₁=>wpAny (model X.prog X.w) X.A (eval b X.env) (λu s₂=>wpAny (model X.prog X.w) X.A (compareOp op v u) (EP X pins Y Q) X.xe s₂) X.xe s₁) X.xe s
theorem Ybl (b:Expr){op:CmpOp}(h:op≠.In)(h2:op≠.NotIn):behindInMarks op b=false:=by
 have e1:(op==CmpOp.In)=false:=by cases op<;>first |rfl |exact absurd rfl h
 have e2:(op==CmpOp.NotIn)=false:=by cases op<;>first |rfl |exact absurd rfl h2
 cases b<;>simp[behindInMarks,e1,e2]
def tB (t:TE):TT:=λY H Q=>t Y H λx H1=>∃c,x = .bl c/\Q c H1
theorem Yin {op:CmpOp}{t:TE}(h:PC X op a b t)(h1:behindInMarks op b=false:=by first |exact Ybl _ (by decide) (by decide) |rfl):PT X (.Compare a [op] [b] pos) (tB t):=by
 intro pins s Y H Q I hw
 refine wpAny_isTrue_Compare1 (thn (h pins s Y H _ I hw) λv s1 h1=>thn h1 λu s2 h2=>thn h2 λc s3 ⟨x,H1,I1,r1,q1⟩=>?_) h1
 obtain⟨d,rfl,q⟩:=q1
 cases r1
 exact wpAny_truthy_bool ⟨H1,I1,q⟩
theorem Xch {e:Expr}{t:TE}(h:PE X e t)(he:∀whole,isTrue e X.env whole=(do let v <- whole;standAt e.pos;holding [v] (truthy v)):=by intro _;rfl):PT X e (tB t):=by
 intro pins s Y H Q I hw
 refine isTrue_plain (thn (h pins s Y H _ I hw) λv s1 ⟨x,H1,I1,r1,q1⟩=>?_) (he _)
 obtain⟨d,rfl,q⟩:=q1
 cases r1
 exact wpAny_truthy_bool ⟨H1,I1,q⟩
variable {tA tB':TT}{Xi0:List Expr}
def Ymd (t u:TT):TT:=λY H Q=>t Y H λc H1=>if c=true then u Y H1 Q else Q false H1
def tOr (t u:TT):TT:=λY H Q=>t Y H λc H1=>if c=true then Q true H1 else u Y H1 Q
def Yl9 (t:TT):TT:=λY H Q=>t Y H λc H1=>Q (!c) H1
theorem Xsy (ha:PT X a tA):PW X (.BoolOp .And [a] pos) tA:=by
 intro wh pins s Y H Q I h
 refine isTrue_and (thn (ha pins s Y H Q I h) λc s1 e=>?_)
 cases c with
 |true=>exact isTrue_and_nil e
 |false=>exact e
theorem Xhr (ha:PT X a tA):PW X (.BoolOp .Or [a] pos) tA:=by
 intro wh pins s Y H Q I h
 refine isTrue_or (thn (ha pins s Y H Q I h) λc s1 e=>?_)
 cases c with
 |false=>exact isTrue_or_nil e
 |true=>exact e
theorem Xxx (ha:PT X a tA)(hb:PW X (.BoolOp .And (b::Xi0) pos) tB'):PW X (.BoolOp .And (a::b::Xi0) pos) (Ymd tA tB'):=by
 intro wh pins s Y H Q I h
 refine isTrue_and (thn (ha pins s Y H _ I h) λc s1 ⟨H1,I1,q1⟩=>?_)
 cases c with
 |true=>exact hb wh pins s1 Y H1 Q I1 q1
 |false=>exact⟨H1,I1,q1⟩
theorem Xkt (ha:PT X a tA)(hb:PW X (.BoolOp .Or (b::Xi0) pos) tB'):PW X (.BoolOp .Or (a::b::Xi0) pos) (tOr tA tB'):=by
 intro wh pins s Y H Q I h
 refine isTrue_or (thn (ha pins s Y H _ I h) λc s1 ⟨H1,I1,q1⟩=>?_)
 cases c with
 |true=>exact⟨H1,I1,q1⟩
 |false=>exact hb wh pins s1 Y H1 Q I1 q1
theorem Xdk (ha:PT X a tA):PT X (.UnaryOp .Not a pos) (Yl9 tA):=by
 intro pins s Y H Q I h
 exact isTrue_not (ha pins s Y H (λc H1=>Q (!c) H1) I h)
def Yhv (ta tb:TE):TE:=λY H Q=>ta Y H λx H1=>∃c,x = .bl c/\if c=true then tb Y H1 Q else Q (.bl false) H1
def Yhp (ta:TE):TE:=λY H Q=>ta Y H λx H1=>∃c,x = .bl c/\Q (.bl (!c)) H1
theorem Xmx {op}{t:TE}(h:PE X a t):PE X (.BoolOp op [a] pos) t:=λpins s Y H Q I hw=>BoolOp_one (h pins s Y H Q I hw)
theorem Xkb (ha:PE X a ta)(hb:PE X (.BoolOp .And (b::Xi0) pos) tb):PE X (.BoolOp .And (a::b::Xi0) pos) (Yhv ta tb):=by
 intro pins s Y H Q I h
 refine BoolOp_and (thn (ha pins s Y H _ I h) λv s1 ⟨x,H1,I1,r1,q1⟩=>?_)
 obtain⟨c,rfl,q1⟩:=q1
 cases r1
 refine wpAny_truthy_bool ?_
 cases c with
 |true=>exact hb pins s1 Y H1 Q I1 q1
 |false=>exact⟨.bl false,H1,I1,rfl,q1⟩
theorem Yc4 (ha:PE X a ta):PE X (.UnaryOp .Not a pos) (Yhp ta):=by
 intro pins s Y H Q I h
 refine UnaryOp_ (thn (ha pins s Y H _ I h) λv s1 ⟨x,H1,I1,r1,q1⟩=>?_)
 obtain⟨c,rfl,q1⟩:=q1
 cases r1
 exact not_of (wpAny_truthy_bool ⟨.bl (!c),H1,I1,rfl,q1⟩)
def tIf (t:TT)(ta tb:TE):TE:=λY H Q=>t Y H λc H1=>if c=true then ta Y H1 Q else tb Y H1 Q
theorem Xph {c:Expr}(hc:PT X c tA)(ha:PE X a ta)(hb:PE X b tb):PE X (.IfExp c a b pos) (tIf tA ta tb):=by
 intro pins s Y H Q I h
 refine wpAny_IfExp (thn (hc pins s Y H _ I h) λd s1 ⟨H1,I1,q1⟩=>?_)
 cases d with
 |true=>exact ha pins s1 Y H1 Q I1 q1
 |false=>exact hb pins s1 Y H1 Q I1 q1
end
def SqL (K:Frag)(H:Hp)(a:Addr)(xs:List V):Prop:=
 Rd H a (.lst xs)∨
  ∃(o:Obj) (its:Array Value) (n:Nat),K.lookup a=some o/\o.cls = .type "list"/\o.dict=none/\o.data = .seq its n/\its.size<=sizeLine/\Xb5 xs its.toList
def SqT (K:Frag)(H:Hp)(a:Addr)(xs:List V):Prop:=
 Rd H a (.tup xs)∨
  ∃(o:Obj) (its:Array Value) (n:Nat),K.lookup a=some o/\o.cls = .type "tuple"/\o.data = .seq its n/\its.size<=sizeLine/\Xb5 xs its.toList
def Ynq:Value->Option V
 | .none=>some .non
 | .bool b=>some (.bl b)
 | .int i _=>some (.int i)
 | .str x _=>some (.str x)
 | .bytes b _=>some (.byt b)
 | .float b _=>some (.flt b)
 | .ref a=>some (.ref a)
 | .type n=>some (.ty n)
 |_=>none
theorem Xeb.abs {x:V}{u:Value}(r:Xeb x u):Ynq u=some x:=by
 cases x with
 |non=>cases r;rfl
 |bl _=>cases r;rfl
 |int _=>obtain⟨t,rfl⟩:=r;rfl
 |str _=>obtain⟨t,rfl⟩:=r;rfl
 |byt _=>obtain⟨t,rfl⟩:=r;rfl
 |flt _=>obtain⟨t,rfl⟩:=r;rfl
 |ref _=>cases r;rfl
 |ty _=>cases r;rfl
theorem Xeb.inj {x y:V}{u:Value}(r:Xeb x u)(q:Xeb y u):x=y:=Option.some.inj (r.abs.symm.trans q.abs)
theorem Xb5.inj:∀{xs ys:List V} {us:List Value},Xb5 xs us->Xb5 ys us->xs=ys
 |_,_,_,.nil,.nil=>rfl
 |_,_,_,.cons r t,.cons r' t'=>by rw[r.inj r',Xb5.inj t t']
section
variable {X:Cx}{pins:List (Addr×Obj)}{Y:St}{H:Hp}{s:Shared}{a:Addr}{xs ys:List V}
theorem SqL.of {K:Frag}(h:H a=some (.lst xs)):SqL K H a xs:=.inl (.inl h)
theorem Inv.list (I:Inv X pins Y H s)(h:SqL X.K H a xs):∃its:List Value,Xb5 xs its/\PlainL s.heap a its.toArray/\xs.length<=sizeLine:=by
 rcases h with h | ⟨o,its,n,hk,hc,hd,hs,hz,r⟩
 .obtain ⟨z,its,n,r,e⟩:=h.ok I.hok
  exact⟨its,r,⟨_,n,e,rfl,rfl,rfl⟩,z⟩
 .refine ⟨its.toList,r,⟨o,n,I.kIn a o hk,hc,hd,by simpa using hs⟩,?_⟩
  have e:=r.length
  simp only[length_toList]at e
  omega
theorem Inv.tuple (I:Inv X pins Y H s)(h:SqT X.K H a xs):∃its:List Value,Xb5 xs its/\IsTup s.heap a its.toArray/\xs.length<=sizeLine:=by
 rcases h with h | ⟨o,its,n,hk,hc,hs,hz,r⟩
 .obtain ⟨z,its,r,p⟩:=h.ok I.hok
  exact⟨its,r,p,z⟩
 .refine ⟨its.toList,r,⟨o,I.kIn a o hk,hc,n,by simpa using hs⟩,?_⟩
  have e:=r.length
  simp only[length_toList]at e
  omega
theorem Inv.list_inj (I:Inv X pins Y H s)(h:SqL X.K H a xs)(h':SqL X.K H a ys):xs=ys:=by
 obtain⟨its,r,⟨o,n,e,_,_,d⟩,_⟩:=I.list h
 obtain⟨its',r',⟨o',n',e',_,_,d'⟩,_⟩:=I.list h'
 rw[e]at e';cases e'
 rw[d]at d'
 injection d' with d1 _
 have:its=its':=by simpa using congrArg Array.toList d1
 subst this
 exact r.inj r'
theorem Inv.tuple_inj (I:Inv X pins Y H s)(h:SqT X.K H a xs)(h':SqT X.K H a ys):xs=ys:=by
 obtain⟨its,r,⟨o,e,_,n,d⟩,_⟩:=I.tuple h
 obtain⟨its',r',⟨o',e',_,n',d'⟩,_⟩:=I.tuple h'
 rw[e]at e';cases e'
 rw[d]at d'
 injection d' with d1 _
 have:its=its':=by simpa using congrArg Array.toList d1
 subst this
 exact r.inj r'
end
abbrev Cx.wish (X:Cx)(E:Value->Shared->Prop):Cx:={X with xe:=E}
abbrev Cx.nox (X:Cx):Cx:=X.wish λ_ _=>False
theorem Cx.Ok.wish {X:Cx}(ok:X.Ok)(E:Value->Shared->Prop):(X.wish E).Ok:=
 ⟨ok.mod,ok.kind,ok.glob,ok.blt,ok.above,ok.inj,ok.has,ok.cab,ok.hd,ok.frames,ok.stk,ok.exf,ok.bs,ok.bsz,ok.noex,ok.exfs,ok.funs,ok.frf⟩
theorem Cx.Ok.unwish {X:Cx}{E:Value->Shared->Prop}(ok:(X.wish E).Ok):X.Ok:=
 ⟨ok.mod,ok.kind,ok.glob,ok.blt,ok.above,ok.inj,ok.has,ok.cab,ok.hd,ok.frames,ok.stk,ok.exf,ok.bs,ok.bsz,ok.noex,ok.exfs,ok.funs,ok.frf⟩
section
variable {X:Cx}{pins:List (Addr×Obj)}{Y:St}{H:Hp}{s:Shared}{E:Value->Shared->Prop}
theorem Inv.wish (I:Inv X pins Y H s)(E:Value->Shared->Prop):Inv (X.wish E) pins Y H s:=⟨I.ok.wish E,I.os,I.bare,I.base,I.loc,I.cell,I.free,I.freeC,I.pin,I.hok,I.len⟩
theorem Inv.unwish (I:Inv (X.wish E) pins Y H s):Inv X pins Y H s:=⟨I.ok.unwish,I.os,I.bare,I.base,I.loc,I.cell,I.free,I.freeC,I.pin,I.hok,I.len⟩
theorem SP.unwish {D:Ends}{f:Flow}{s':Shared}(h:SP (X.wish E) pins D f s'):SP X pins D f s':=by
 cases f with
 |next=>obtain⟨Y',H',I,q⟩:=h;exact⟨Y',H',I.unwish,q⟩
 |brk=>obtain⟨Y',H',I,q⟩:=h;exact⟨Y',H',I.unwish,q⟩
 |cont=>obtain⟨Y',H',I,q⟩:=h;exact⟨Y',H',I.unwish,q⟩
 |ret u=>obtain⟨v,Y',H',I,r,q⟩:=h;exact⟨v,Y',H',I.unwish,r,q⟩
theorem PSs.nox {st:List Stmt}{t:TS}(h:PSs X.nox st t):PSs X st t:=λpins s Y H D I hw=>
 wpAny_mono (h pins s Y H D (I.wish _) hw) (λ_ _ q=>q.unwish) λ_ _ z=>False.elim z
end
section
variable {X:Cx}{st:Stmt}{Xi0:List Stmt}{t u:TS}{e:Expr}{te:TE}{pos:Pos}
def Yhq:TS:=λD Y H=>D.nx Y H
def Yk2 (t u:TS):TS:=λD Y H=>t {D with nx:=u D} Y H
theorem Xbb:PSs X [] Yhq:=λ_ _ Y H _ I h=>wpAny_execs_nil ⟨Y,H,I,h⟩
theorem Xag (h1:PS X st t)(h2:PSs X Xi0 u):PSs X (st::Xi0) (Yk2 t u):=by
 intro pins s Y H D I h
 refine wpAny_execs_cons (thn (h1 pins s Y H {D with nx:=u D} I h) λf s1 q=>?_)
 cases f with
 |next=>
  obtain⟨Y',H',I',q⟩:=q
  exact h2 pins s1 Y' H' D I' q
 |ret v=>exact q
 |brk=>exact q
 |cont=>exact q
theorem Xaj (h1:PS X st t):PSs X [st] t:=by
 intro pins s Y H D I h
 refine wpAny_execs_cons (thn (h1 pins s Y H D I h) λf s1 q=>?_)
 cases f with
 |next=>exact wpAny_execs_nil q
 |ret v=>exact q
 |brk=>exact q
 |cont=>exact q
def Ycn:TS:=λD Y H=>D.bk Y H
theorem Ya3:PS X (.Break pos) Ycn:=λ_ _ Y H _ I h=>wpAny_Break ⟨Y,H,I,h⟩
theorem Inv.quiet {pins:List (Addr×Obj)}{Y:St}{H:Hp}{s:Shared}(I:Inv X pins Y H s):interactive X.env=false:=by simp[interactive,I.ok.kind]
def Xqd (te:TE):TS:=λD Y H=>te Y H λ_ H1=>D.nx Y H1
theorem Xbz (he:PE X e te)(hs:swapsWith e none pos.line X.env=pure false:=by rfl):PS X (.Expr e pos) (Xqd te):=by
 intro pins s Y H D I h
 exact wpAny_Expr_any (thn (he pins s Y H _ I h) λv s1 ⟨x,H1,I1,r1,q1⟩=>⟨Y,H1,I1,q1⟩) I.quiet hs
def Yk3 (te:TE):TS:=λD Y H=>te Y H D.rt
theorem Xax (he:PE X e te):PS X (.Return (some e) pos) (Yk3 te):=by
 intro pins s Y H D I h
 exact wpAny_Return_some (thn (he pins s Y H _ I h) λv s1 ⟨x,H1,I1,r1,q1⟩=>⟨x,Y,H1,I1,r1,q1⟩)
def Yk4 (c:TT)(t u:TS):TS:=λD Y H=>c Y H λb H1=>if b=true then t D Y H1 else u D Y H1
theorem Xcb {c:Expr}{a b:List Stmt}{tc:TT}(hc:PT X c tc)(ha:PSs X a t)(hb:PSs X b u):PS X (.If c a b pos) (Yk4 tc t u):=by
 intro pins s Y H D I h
 refine wpAny_If (thn (hc pins s Y H _ I h) λd s1 ⟨H1,I1,q1⟩=>?_)
 cases d with
 |true=>exact ha pins s1 Y H1 D I1 q1
 |false=>exact hb pins s1 Y H1 D I1 q1
def Yck:TS:=λ_ _ _=>False
theorem Xga:PS X st Yck:=λ_ _ _ _ _ _ h=>h.elim
end
abbrev TG:=V->St->Hp->(St->Hp->Prop)->Prop
abbrev TGs:=List V->St->Hp->(St->Hp->Prop)->Prop
def PG (X:Cx)(target:Expr)(t:TG):Prop:=
 ∀(pins:List (Addr×Obj)) (s:Shared) (Y:St) (H:Hp) (v:V) (u:Value) (Q:St->Hp->Prop),Inv X pins Y H s->Xeb v u->t v Y H Q->
  wpAny (model X.prog X.w) X.A (assign target X.env u) (λ_ s'=>∃Y' H',Inv X pins Y' H' s'/\Q Y' H') X.xe s
def PGs (X:Cx)(ts:List Expr)(t:TGs):Prop:=
 ∀(pins:List (Addr×Obj)) (s:Shared) (Y:St) (H:Hp) (vs:List V) (us:List Value) (Q:St->Hp->Prop),Inv X pins Y H s->Xb5 vs us->t vs Y H Q->
  wpAny (model X.prog X.w) X.A (assignInOrder ((assignEach ts X.env).map (·.2)) us) (λ_ s'=>∃Y' H',Inv X pins Y' H' s'/\Q Y' H') X.xe s
abbrev Yhe:=V->V->V->Hp->(Hp->Prop)->Prop
def Yl4 (X:Cx)(t:Yhe):Prop:=
 ∀(pins:List (Addr×Obj)) (s:Shared) (Y:St) (H:Hp) (o i v:V) (ov iv u:Value) (Q:Hp->Prop),Inv X pins Y H s->Xeb o ov->Xeb i iv->Xeb v u->t o i v H Q->
  wpAny (model X.prog X.w) X.A (setItem ov iv u) (λ_ s'=>∃H',Inv X pins Y H' s'/\Q H') X.xe s
abbrev TIp:=V->V->Hp->VK->Prop
def PIp (X:Cx)(op:Operator)(t:TIp):Prop:=
 ∀(pins:List (Addr×Obj)) (s:Shared) (Y:St) (H:Hp) (x y:V) (v u:Value) (Q:VK),Inv X pins Y H s->Xeb x v->Xeb y u->t x y H Q->
  wpAny (model X.prog X.w) X.A (inplaceOp op v u) (EP X pins Y Q) X.xe s
section
variable {X:Cx}{pos:Pos}
def Xtg (i:Nat):TG:=λv Y H Q=>Q (Y.set i (some v)) H
theorem Xa4 {i:Nat}{x:Str}(hN:X.N.Nodup)(hi:X.N[i]?=some x)(hx:Loc X.env.scope x)(hf:X.fn x=true∨X.env.scope.names.lookup x=some .local:=by first |exact .inl rfl |exact .inr rfl |assumption):PG X (.Name x pos) (Xtg i):=by
 intro pins s Y H v u Q I r h
 exact wpAny_assign_Name (Xlx I hN hi hx r (λs' I'=>⟨_,H,I',h⟩) hf)
def Ymw:TGs:=λvs Y H Q=>vs=[]/\Q Y H
def Yju (t:TG)(u:TGs):TGs:=λvs Y H Q=>∃v r,vs=v::r/\t v Y H λY' H'=>u r Y' H' Q
theorem Xpg:PGs X [] Ymw:=by
 intro pins s Y H vs us Q I r h
 obtain⟨e,h⟩:=h
 subst e
 cases r
 exact assignInOrder_nil ⟨Y,H,I,h⟩
theorem Xfe {e:Expr}{es:List Expr}{t:TG}{u:TGs}(h1:PG X e t)(h2:PGs X es u)
  (hs:(assignEach (e::es) X.env).map (·.2)=assign e X.env::(assignEach es X.env).map (·.2):=by rfl):PGs X (e::es) (Yju t u):=by
 intro pins s Y H vs us Q I r h
 obtain⟨v,vr,e1,h⟩:=h
 subst e1
 cases r with
 |cons r rr=>
  rw[hs]
  refine assignInOrder_cons (thn (h1 pins s Y H _ _ _ I r h) λ_ s1 ⟨Y1,H1,I1,q1⟩=>?_)
  exact h2 pins s1 Y1 H1 _ _ Q I1 rr q1
def Ymv (K:Frag)(n:Nat)(t:TGs):TG:=λv Y H Q=>∃a xs,v = .ref a/\SqT K H a xs/\xs.length=n/\t xs Y H Q
theorem Xuh {es:List Expr}{k:Nat}{t:TGs}{n:Nat}(hc:X.calm=true)(h:PGs X es t)
  (hn:(assignEach es X.env).length=n:=by rfl) (hst:(assignEach es X.env).findIdx? (·.1)=none:=by rfl):PG X (.Tuple es k pos) (Ymv X.K n t):=by
 intro pins s Y H v u Q I r hw
 obtain⟨a,xs,e1,hq,hl,hw⟩:=hw
 subst e1
 cases r
 obtain⟨its,rv,ht,hz⟩:=I.tuple hq
 refine assign_Tuple_tuple (I.ok.hd hc) ht (by simp[hn,<- hl,rv.length]) hst λh' hx=>?_
 have I1:Inv X pins Y H {s with heap:=h'}:=I.kept (t':=s.toks) λb o e=>hx b o (ne_of_lt (lt_size e)) e
 exact h pins _ Y H xs _ Q I1 (by simpa using rv) hw
def Yky (to ti:TE)(t:Yhe):TG:=λv Y H Q=>to Y H λo H1=>ti Y H1 λi H2=>t o i v H2 λH3=>Q Y H3
theorem Xx2 {o i:Expr}{to ti:TE}{t:Yhe}(ho:PE X o to)(hi:PE X i ti)(hs:Yl4 X t)
  (ha:∀v,assign (.Subscript o i pos) X.env v=(do
   let ov <- holding [v] (eval o X.env)
   let iv <- holding [v,ov] (eval i X.env)
   standAt pos
   holding [v,ov,iv] (setItem ov iv v)
   release [v,ov,iv] []):=by intro _;rfl):PG X (.Subscript o i pos) (Yky to ti t):=by
 intro pins s Y H v u Q I r h
 rw[ha]
 refine wpAny_bind (wpAny_holding (thn (ho pins s Y H _ I h) λov s1 ⟨x,H1,I1,r1,q1⟩=>?_))
 refine wpAny_bind (wpAny_holding (thn (hi pins s1 Y H1 _ I1 q1) λiv s2 ⟨y,H2,I2,r2,q2⟩=>?_))
 refine wpAny_bind (wpAny_standAt (wpAny_bind (wpAny_holding (thn (hs pins s2 Y H2 x y v ov iv u _ I2 r1 r2 r q2) λ_ s3 ⟨H3,I3,q3⟩=>?_))))
 exact wpAny_release ⟨Y,H3,I3,q3⟩
def Yam (te:TE)(g:TG):TS:=λD Y H=>te Y H λx H1=>g x Y H1 D.nx
theorem Xue {tg e:Expr}{te:TE}{g:TG}(he:PE X e te)(hg:PG X tg g)(hs:swapsWithSole [tg] e pos.line X.env=pure false:=by rfl)(hw:swappedStores [tg] e X.env=pure none:=by rfl)
  (h1:(assignEach [tg] X.env).map (·.2)=[assign tg X.env]:=by rfl):PS X (.Assign [tg] e pos) (Yam te g):=by
 intro pins s Y H D I h
 refine wpAny_Assign_stores (thn (he pins s Y H _ I h) λv s1 ⟨x,H1,I1,r1,q1⟩=>?_) hs hw
 rw[h1]
 exact thn (hg pins s1 Y H1 x v _ I1 r1 q1) λ_ s2 q=>q
theorem Xa6 {i:Nat}{x:Str}{e:Expr}{te:TE}{pos':Pos}(hN:X.N.Nodup)(hi:X.N[i]?=some x)(hx:Loc X.env.scope x)(he:PE X e te)(hs:swapsWith e (some (.Name x pos')) pos.line X.env=pure false:=by rfl)(hf:X.fn x=true∨X.env.scope.names.lookup x=some .local:=by first |exact .inl rfl |exact .inr rfl |assumption):
  PS X (.Assign [.Name x pos'] e pos) (Yam te (Xtg i)):=by
 intro pins s Y H D I h
 refine wpAny_Assign_Name (thn (he pins s Y H _ I h) λv s1 ⟨y,H1,I1,r1,q1⟩=>?_) hs
 exact Xlx I1 hN hi hx r1 (λs2 I2=>⟨_,H1,I2,q1⟩) hf
def Ymc (i:Nat)(te:TE)(ti:TIp):TS:=λD Y H=>∃x,Y[i]?=some (some x)/\te Y H λy H1=>ti x y H1 λz H2=>D.nx (Y.set i (some z)) H2
theorem Yio {i:Nat}{x:Str}{e:Expr}{te:TE}{op:Operator}{ti:TIp}{pos':Pos}(hN:X.N.Nodup)(hi:X.N[i]?=some x)(hx:Loc X.env.scope x)(he:PE X e te)(ho:PIp X op ti)(hf:X.fn x=true∨X.env.scope.names.lookup x=some .local:=by first |exact .inl rfl |exact .inr rfl |assumption):
  PS X (.AugAssign (.Name x pos') op e pos) (Ymc i te ti):=by
 intro pins s Y H D I h
 obtain⟨v,e1,h⟩:=h
 obtain⟨m,hn,hl⟩:=I.loc
 have vis:Vis X.env.scope x:=by rcases hx with k |k;exact .inl k;exact .inr (.inl k)
 obtain⟨u,r,l⟩:=hl i x v hi e1 vis
 refine wpAny_AugAssign_Name ?_
 have go:wpAny (model X.prog X.w) X.A (eval e X.env) (λw s₂=>wpAny (model X.prog X.w) X.A (inplaceOp op u w) (λr s₃=>wpAny (model X.prog X.w) X.A (storeName X.env x r) (λ_=>SP X pins D .next) X.xe s₃) X.xe s₂) X.xe s:=by
  refine thn (he pins s Y H _ I h) λw s1 ⟨y,H1,I1,r1,q1⟩=>?_
  refine thn (ho pins s1 Y H1 v y u w _ I1 r r1 q1) λz s2 ⟨zv,H2,I2,r2,q2⟩=>?_
  exact Xlx I2 hN hi hx r2 (λs3 I3=>⟨_,H2,I3,q2⟩) hf
 rcases l with⟨hk,hm⟩ | ⟨hk,c,hc,hcell⟩
 .exact wpAny_loadName_local I.ok.kind hk hn hm go
 .rcases hk with hk |hk
  .exact wpAny_loadName_cell I.ok.kind hk hc hcell go
  .rcases hx with k |k
   .have:X.env.scope.names.lookup x=some .free:=hk
    rw[k]at this;cases this
   .have:X.env.scope.names.lookup x=some .free:=hk
    rw[k]at this;cases this
def Yhu (to ti te:TE)(tget:V->V->Hp->VK->Prop)(tip:TIp)(tset:Yhe):TS:=λD Y H=>to Y H λo H1=>ti Y H1 λi H2=>tget o i H2 λx H3=>te Y H3 λy H4=>tip x y H4 λz H5=>tset o i z H5 λH6=>D.nx Y H6
def Ync (X:Cx)(t:V->V->Hp->VK->Prop):Prop:=
 ∀(pins:List (Addr×Obj)) (s:Shared) (Y:St) (H:Hp) (o i:V) (ov iv:Value) (Q:VK),Inv X pins Y H s->Xeb o ov->Xeb i iv->t o i H Q->
  wpAny (model X.prog X.w) X.A (getItem ov iv) (EP X pins Y Q) X.xe s
theorem Yfe {o i e:Expr}{to ti te:TE}{tget:V->V->Hp->VK->Prop}{tip:TIp}{tset:Yhe}{op:Operator}{tpos:Pos}(ho:PE X o to)(hi:PE X i ti)(hg:Ync X tget)(he:PE X e te)(hp:PIp X op tip)(hs:Yl4 X tset)
  (ha:∀ov iv new,augStore i ov iv new=(do holding [new,ov,iv] (setItem ov iv new);release [new,ov,iv] [];pure .next):=by intros;rfl):PS X (.AugAssign (.Subscript o i tpos) op e pos) (Yhu to ti te tget tip tset):=by
 intro pins s Y H D I h
 refine wpAny_AugAssign_SubscriptAny (thn (ho pins s Y H _ I h) λov s1 ⟨x1,H1,I1,r1,q1⟩=>?_) ha
 refine thn (hi pins s1 Y H1 _ I1 q1) λiv s2 ⟨x2,H2,I2,r2,q2⟩=>?_
 refine thn (hg pins s2 Y H2 x1 x2 ov iv _ I2 r1 r2 q2) λold s3 ⟨x3,H3,I3,r3,q3⟩=>?_
 refine thn (he pins s3 Y H3 _ I3 q3) λv s4 ⟨x4,H4,I4,r4,q4⟩=>?_
 refine thn (hp pins s4 Y H4 x3 x4 old v _ I4 r3 r4 q4) λnew s5 ⟨x5,H5,I5,r5,q5⟩=>?_
 exact thn (hs pins s5 Y H5 x1 x2 x5 ov iv new _ I5 r1 r2 r5 q5) λ_ s6 ⟨H6,I6,q6⟩=>⟨Y,H6,I6,q6⟩
def ipI (f:Int->Int->Int):TIp:=λx y H Q=>∃i j,x = .int i/\y = .int j/\Q (.int (f i j)) H
theorem Ydl:PIp X .Add (ipI λi j=>i+j):=by
 intro pins s Y H x y v u Q I r1 r2 h
 obtain⟨i,j,e1,e2,q⟩:=h
 subst e1;subst e2
 obtain⟨t,rfl⟩:=r1
 obtain⟨t',rfl⟩:=r2
 exact iadd_int ⟨.int _,H,I.tok _,⟨_,rfl⟩,q⟩
end
section
variable {X:Cx}{pos:Pos}
def Yci (c:TT)(tb:TS):TS:=λD Y H=>∃W:Nat->St->Hp->Prop,(∃m,W m Y H)/\∀m Y H,W m Y H->
 c Y H λb H1=>if b=true then ∃N:St->Hp->Prop,(∀Y' H',N Y' H'->∃m',m'<m/\W m' Y' H')/\tb {D with nx:=N,ct:=N,bk:=D.nx} Y H1 else D.nx Y H1
theorem Xuc {c:Expr}{body:List Stmt}{tc:TT}{tb:TS}(hp:PassesOwn (model X.prog X.w) X.A X.env X.xe)(hc:PT X c tc)(hb:PSs X body tb):PS X (.While c body [] pos) (Yci tc tb):=by
 intro pins s Y H D I h
 obtain⟨W,⟨m0,w0⟩,turn⟩:=h
 refine wpAny_While (codeAny_whileLoop (λn s'=>∃Y' H',Inv X pins Y' H' s'/\W n Y' H') ?_ m0 ⟨Y,H,I,w0⟩)
 rintro n s1 ⟨Y1,H1,I1,w1⟩
 refine wpAny_passesOwn hp (thn (hc pins s1 Y1 H1 _ I1 (turn n Y1 H1 w1)) λb s2 ⟨H2,I2,q2⟩=>?_)
 cases b with
 |true=>
  obtain⟨N,hN,q2⟩:=q2
  rw[if_pos rfl]
  refine wpAny_passesOwn hp (thn (hb pins s2 Y1 H2 _ I2 q2) λf s3 q3=>?_)
  cases f with
  |next=>
   obtain⟨Y3,H3,I3,n3⟩:=q3
   obtain⟨m',hm,w3⟩:=hN Y3 H3 n3
   exact⟨m',hm,Y3,H3,I3,w3⟩
  |cont=>
   obtain⟨Y3,H3,I3,n3⟩:=q3
   obtain⟨m',hm,w3⟩:=hN Y3 H3 n3
   exact⟨m',hm,Y3,H3,I3,w3⟩
  |brk=>exact q3
  |ret v=>exact q3
 |false=>
  rw[if_neg Bool.false_ne_true]
  exact wpAny_execs_nil ⟨Y1,H2,I2,q2⟩
end
structure It where
 go:Nat->Hp->Prop
 yld:Nat->Hp->V->Hp->Prop
 stop:Nat->Hp->Prop
def Xn9 (X:Cx)(pins:List (Addr×Obj))(H:Hp)(b:Addr):Prop:=
 H b=none/\b≠X.env.locals/\b∉X.fs/\(b∈X.ex∨X.s₀.heap.objs.size<=b)/\(∀x c,X.env.cells.lookup x=some c->c≠b)/\∀p∈X.pn++pins,p.1≠b
theorem Inv.fpOk {X:Cx}{pins:List (Addr×Obj)}{Y:St}{H H':Hp}{s:Shared}{b:Addr}(I:Inv X pins Y H s)(hb:s.heap.objs.size<=b)(hn:H' b=none):Xn9 X pins H' b:=by
 refine⟨hn,ne_of_gt (lt_of_lt_of_le I.lt hb),I.nofs hb,.inr (le_trans I.sz hb),λx c e z=>?_,λp hp z=>?_⟩
 .obtain ⟨v,q⟩:=I.cell x c e
  exact absurd (lt_of_lt_of_le q.lt (by rw[z];exact hb)) (lt_irrefl _)
 .exact absurd (lt_of_lt_of_le (lt_size (I.pin p hp).1) (by rw[z];exact hb)) (lt_irrefl _)
structure Turn (P:Program) (w:World) (K:Frag) (tg:Expr) (J:It) (fp:List Addr) (it:Addr) (tn:Nat->Heap->Prop):Prop where
 mem:it∈fp
 obj:∀i h,tn i h->∀b∈fp,∃o,h.get? b=some o/\∀v,o.data≠.cell v
 keep:∀i h h',tn i h->(∀b∈fp,∀o,h.get? b=some o->h'.get? b=some o)->tn i h'
 item:∀(X:Cx),X.prog=P->X.w=w->X.K=K->X.calm=true->∀(i:Nat) (pins:List (Addr×Obj)) (s:Shared) (Y:St) (H:Hp) (E:Value->Shared->Prop),Inv X pins Y H s->(∀b∈fp,Xn9 X pins H b)->tn i s.heap->J.go i H->
  wpAny (model P w) X.A (pyNext (.ref it)) (λr s1=>∃u,r=some u/\
   wpAny (model P w) X.A (letOwnedTupleGo tg (.ref it) u) (λ_ s2=>∃x H',Inv X pins Y H' s2/\Xeb x u/\J.yld i H x H'/\tn (i+1) s2.heap/\∀b∈fp,H' b=none) E s1) E s
 done:∀(X:Cx),X.prog=P->X.w=w->X.K=K->X.calm=true->∀(i:Nat) (pins:List (Addr×Obj)) (s:Shared) (Y:St) (H:Hp) (E:Value->Shared->Prop),Inv X pins Y H s->(∀b∈fp,Xn9 X pins H b)->tn i s.heap->J.stop i H->
  wpAny (model P w) X.A (pyNext (.ref it)) (λr s1=>r=none/\Inv X pins Y H s1) E s
 self:∀(A:Around) (i:Nat) (s:Shared) (Q:Value->Shared->Prop) (E:Value->Shared->Prop),tn i s.heap->Q (.ref it) s->wpAny (model P w) A (pyIter (.ref it)) Q E s
abbrev TI:=St->Hp->(It->Hp->Prop)->Prop
def PIE (X:Cx)(pins:List (Addr×Obj))(Y:St)(tg:Expr)(R:It->Hp->Prop)(itv:Value)(s2:Shared):Prop:=
 ∃(it:Addr) (fp:List Addr) (tn:Nat->Heap->Prop) (J:It) (H':Hp),itv = .ref it/\Inv X pins Y H' s2/\Turn X.prog X.w X.K tg J fp it tn/\tn 0 s2.heap/\(∀b∈fp,Xn9 X pins H' b)/\R J H'
def PI (X:Cx)(tg iter:Expr)(wi:TI):Prop:=
 ∀(pins:List (Addr×Obj)) (s:Shared) (Y:St) (H:Hp) (R:It->Hp->Prop),Inv X pins Y H s->wi Y H R->
  wpAny (model X.prog X.w) X.A (eval iter X.env) (λv s1=>wpAny (model X.prog X.w) X.A (pyIter v) (PIE X pins Y tg R) X.xe s1) X.xe s
theorem Xtb {M:Model}{A:Around}{E:Value->Shared->Prop}{s:Shared}{tg:Expr}{it:Addr}{u:Value}{o:Obj}{n:String}{vs:Array Value}{Q:Unit->Shared->Prop}(ho:s.heap.get? it=some o)(hc:o.cls = .type n)(hd:o.data = .fields vs)
  (hn:["enumerate","zip","dict_itemiterator","dict_reverseitemiterator","odict_iterator","itertools.zip_longest","itertools.pairwise"].contains n=false) (hQ:Q () s):wpAny M A (letOwnedTupleGo tg (.ref it) u) Q E s:=by
 unfold letOwnedTupleGo
 cases tg <;> first
  |exact wpAny_pure hQ
  | (cases u<;>first
    |exact wpAny_pure hQ
    | (refine wpAny_bind (wpAny_load ho ?_)
       rw[hc,hd]
       show wpAny M A (if (["enumerate","zip","dict_itemiterator","dict_reverseitemiterator","odict_iterator","itertools.zip_longest","itertools.pairwise"].contains n && vs[0]?==some (rawInt _))=true then _ else _) Q E s
       rw[if_neg (by intro h;rw[hn,Bool.false_and]at h;cases h)]
       exact wpAny_pure hQ))
def Itl (K:Frag)(a:Addr):It:=
 ⟨λi H=>∃xs x,SqL K H a xs/\xs[i]?=some x,λi H x H'=>H'=H/\∀xs,SqL K H a xs->xs[i]?=some x,λi H=>∃xs,SqL K H a xs/\xs.length<=i⟩
def Itt (K:Frag)(a:Addr):It:=
 ⟨λi H=>∃xs x,SqT K H a xs/\xs[i]?=some x,λi H x H'=>H'=H/\∀xs,SqT K H a xs->xs[i]?=some x,λi H=>∃xs,SqT K H a xs/\xs.length<=i⟩
def Itr (lo:Int)(n:Nat):It:=⟨λi _=>i<n,λi H x H'=>H'=H/\x = .int (lo+i),λi _=>n<=i⟩
theorem Xwq {P:Program}{w:World}{K:Frag}{tg:Expr}(a it:Addr):Turn P w K tg (Itl K a) [it] it (λi h=>h.IsListIter it a i) where
 mem:=by simp
 obj:=λi h st b hb=>by
  have e:b=it:=by simpa using hb
  subst e
  obtain⟨o,e,c,d⟩:=st
  exact⟨o,e,λv z=>by rw[d]at z;cases z⟩
 keep:=λi h h' st k=>st.at λo e=>k it (by simp) o e
 item:=by
  kj_on
  obtain⟨xs,x,hq,hx⟩:=hg
  obtain⟨its,rv,p,hz⟩:=I.list hq
  obtain⟨u,hu,ru⟩:=rv.get hx
  obtain⟨f0,f1,f2,f3,f4,f5⟩:=hf it (by simp)
  refine wpAny_pyNext_list_item st p.isList (x:=u) (by simpa using hu) λh' st' sb=>?_
  have I1:Inv X pins Y H {s with heap:=h'}:=I.turned (t':=s.toks) (λb o hb e=>(sb.2 b hb).trans e) f0 f1 f3 f4 f5
  obtain⟨o,e,c,d⟩:=id st'
  exact⟨u,rfl,Xtb (s:={s with heap:=h'}) e c d (by decide) ⟨x,H,I1,ru,⟨rfl,λys hy=>by rw[I.list_inj hy hq];exact hx⟩,st',λb hb=>(hf b hb).1⟩⟩
 done:=by
  kj_on
  obtain⟨xs,hq,hx⟩:=hg
  obtain⟨its,rv,p,hz⟩:=I.list hq
  obtain⟨f0,f1,f2,f3,f4,f5⟩:=hf it (by simp)
  have hl:=rv.length
  exact wpAny_pyNext_list_end (I.ok.hd hc) st p.isList (by simp;omega) λh' eb=>⟨rfl,I.turned (t':=s.toks) (λb o hb e=>eb b o hb e) f0 f1 f3 f4 f5⟩
 self:=λ_ _ _ _ _ st h=>wpAny_pyIter_listiter st h
theorem Xu7 {P:Program}{w:World}{K:Frag}{tg:Expr}(a it:Addr):Turn P w K tg (Itt K a) [it] it (λi h=>h.IsTupleIter it a i) where
 mem:=by simp
 obj:=λi h st b hb=>by
  have e:b=it:=by simpa using hb
  subst e
  obtain⟨o,e,c,d⟩:=st
  exact⟨o,e,λv z=>by rw[d]at z;cases z⟩
 keep:=λi h h' st k=>st.at λo e=>k it (by simp) o e
 item:=by
  kj_on
  obtain⟨xs,x,hq,hx⟩:=hg
  obtain⟨its,rv,p,hz⟩:=I.tuple hq
  obtain⟨u,hu,ru⟩:=rv.get hx
  obtain⟨f0,f1,f2,f3,f4,f5⟩:=hf it (by simp)
  refine wpAny_pyNext_tuple_item st (show s.heap.IsTuple a its.toArray from p) (x:=u) (by simpa using hu) λh' st' sb=>?_
  have I1:Inv X pins Y H {s with heap:=h'}:=I.turned (t':=s.toks) (λb o hb e=>(sb.2 b hb).trans e) f0 f1 f3 f4 f5
  obtain⟨o,e,c,d⟩:=id st'
  exact⟨u,rfl,Xtb (s:={s with heap:=h'}) e c d (by decide) ⟨x,H,I1,ru,⟨rfl,λys hy=>by rw[I.tuple_inj hy hq];exact hx⟩,st',λb hb=>(hf b hb).1⟩⟩
 done:=by
  kj_on
  obtain⟨xs,hq,hx⟩:=hg
  obtain⟨its,rv,p,hz⟩:=I.tuple hq
  obtain⟨f0,f1,f2,f3,f4,f5⟩:=hf it (by simp)
  have hl:=rv.length
  exact wpAny_pyNext_tuple_end (I.ok.hd hc) st (show s.heap.IsTuple a its.toArray from p) (by simp;omega) λh' eb=>⟨rfl,I.turned (t':=s.toks) (λb o hb e=>eb b o hb e) f0 f1 f3 f4 f5⟩
 self:=λ_ _ _ _ _ st h=>wpAny_pyIter_tupleiter st h
theorem Xu8 {P:Program}{w:World}{K:Frag}{tg:Expr}(it:Addr)(lo:Int)(n:Nat):Turn P w K tg (Itr lo n) [it] it (λi h=>IsRangeIter h it (lo+(i:Nat)*1) ((n:Int)-(i:Nat)) 1) where
 mem:=by simp
 obj := λi h st b hb=>by
  have e:b=it:=by simpa using hb
  subst e
  exact⟨_,st,λv z=>by
   have z':Data.fields _=Data.cell v:=z
   cases z'⟩
 keep:=λi h h' st k=>k it (by simp) _ st
 item:=by
  kj_on
  obtain⟨f0,f1,f2,f3,f4,f5⟩:=hf it (by simp)
  have W:=Walks.range (prog:=X.prog) (w:=X.w) (I.ok.hd hc) it lo 1 n
  refine W.item i s _ _ hg st λv h' tk hv st' kk=>?_
  obtain⟨t,rfl⟩:=hv
  have I1:Inv X pins Y H {s with heap:=h',toks:=tk}:=I.turned (λb o hb e=>kk b o (by simpa using hb) e) f0 f1 f3 f4 f5
  refine⟨_,rfl,Xtb (s:={s with heap:=h',toks:=tk}) (n := "range_iterator") st' rfl rfl (by decide) ⟨.int (lo+i),H,I1,⟨t,?_⟩,⟨rfl,rfl⟩,st',λb hb=>(hf b hb).1⟩⟩
  rw[mul_one]
 done:=by
  kj_on
  obtain⟨f0,f1,f2,f3,f4,f5⟩:=hf it (by simp)
  exact wpAny_pyNext_range_end (I.ok.hd hc) st (by have:n<=i:=hg;omega) λh' eb=>⟨rfl,I.turned (t':=s.toks) (λb o hb e=>eb b o hb e) f0 f1 f3 f4 f5⟩
 self:=λ_ _ _ _ _ st h=>wpAny_pyIter_rangeiter st h
section
variable {X:Cx}{tg:Expr}
def Ygk (K:Frag)(tl:TE):TI:=λY H R=>tl Y H λx H1=>∃a,x = .ref a/\(∃xs,SqL K H1 a xs)/\R (Itl K a) H1
def Yms (K:Frag)(tl:TE):TI:=λY H R=>tl Y H λx H1=>∃a,x = .ref a/\(∃xs,SqT K H1 a xs)/\R (Itt K a) H1
theorem Xgf {l:Expr}{tl:TE}(hl:PE X l tl):PI X tg l (Ygk X.K tl):=by
 intro pins s Y H R I h
 refine thn (hl pins s Y H _ I h) λv s1 ⟨x,H1,I1,r1,q1⟩=>?_
 obtain⟨a,e,⟨xs,hq⟩,q⟩:=q1
 subst e
 cases r1
 obtain⟨its,rv,p,hz⟩:=I1.list hq
 refine wpAny_pyIter_list p.isList ?_
 refine⟨s1.heap.objs.size,[s1.heap.objs.size],_,_,H1,rfl,I1.kept (t':=s1.toks) λb o e=>get?_push_of_some _ e,Xwq a _,⟨_,get?_push_size _ rfl,rfl,rfl⟩,λb hb=>?_,q⟩
 have e:b=s1.heap.objs.size:=by simpa using hb
 subst e
 exact I1.fpOk (Nat.le_refl _) (I1.hok.fresh (Nat.le_refl _))
theorem Xli {l:Expr}{tl:TE}(hl:PE X l tl):PI X tg l (Yms X.K tl):=by
 intro pins s Y H R I h
 refine thn (hl pins s Y H _ I h) λv s1 ⟨x,H1,I1,r1,q1⟩=>?_
 obtain⟨a,e,⟨xs,hq⟩,q⟩:=q1
 subst e
 cases r1
 obtain⟨its,rv,p,hz⟩:=I1.tuple hq
 refine wpAny_pyIter_tuple (show s1.heap.IsTuple a its.toArray from p) ?_
 refine⟨s1.heap.objs.size,[s1.heap.objs.size],_,_,H1,rfl,I1.kept (t':=s1.toks) λb o e=>get?_push_of_some _ e,Xu7 a _,⟨_,get?_push_size _ rfl,rfl,rfl⟩,λb hb=>?_,q⟩
 have e:b=s1.heap.objs.size:=by simpa using hb
 subst e
 exact I1.fpOk (Nat.le_refl _) (I1.hok.fresh (Nat.le_refl _))
theorem Yaz {pins:List (Addr×Obj)}{Y:St}{H:Hp}{s:Shared}{R:It->Hp->Prop}{E:Value->Shared->Prop}{lo hi:Int}{t u v:Tok}{tk:Nat}(I:Inv X pins Y H s)(h1 : -(2^62)<=lo)(h2:lo<2^62)(h3 : -(2^62)<=hi)(h4:hi<2^62)
  (q:R (Itr lo (hi-lo).toNat) H):wpAny (model X.prog X.w) X.A (pyIter (.ref s.heap.objs.size)) (PIE X pins Y tg R) E {s with heap:=s.heap.push {cls:=.type "range",data:=.fields #[.int lo t,.int hi u,.int 1 v]},toks:=tk}:=by
 refine wpAny_pyIter_range (IsRange.new ..) (small_one h1 h2 h3 h4) ?_
 have I1:Inv X pins Y H {s with heap:=s.heap.push {cls:=.type "range",data:=.fields #[.int lo t,.int hi u,.int 1 v]},toks:=tk}:=I.kept λb o e=>get?_push_of_some _ e
 refine⟨(s.heap.push {cls:=.type "range",data:=.fields #[.int lo t,.int hi u,.int 1 v]}).objs.size,[(s.heap.push {cls:=.type "range",data:=.fields #[.int lo t,.int hi u,.int 1 v]}).objs.size],_,_,H,rfl,
  I1.kept (t':=tk) λb o e=>get?_push_of_some _ e,Xu8 _ lo (hi-lo).toNat,?_,λb hb=>?_,q⟩
 .have e1:lo+((0:Nat):Int)*1=lo:=by simp
  have e2:(((hi-lo).toNat:Nat):Int)-((0:Nat):Int)=Builtin.Range.rangeSize lo hi 1:=by rw[rangeSize_one];split<;>omega
  show IsRangeIter _ _ (lo+((0:Nat):Int)*1) ((((hi-lo).toNat:Nat):Int)-((0:Nat):Int)) 1
  rw[e1,e2]
  exact get?_push_size _ rfl
 .have e:b=(s.heap.push {cls:=.type "range",data:=.fields #[.int lo t,.int hi u,.int 1 v]}).objs.size:=by simpa using hb
  subst e
  exact I1.fpOk (Nat.le_refl _) (I1.hok.fresh (Nat.le_refl _))
def Yjs (ta:TA):TI:=λY H R=>ta Y H λvs H1=>∃j:Int,vs=[.int j]/\-(2^62)<=j/\j<2^62/\R (Itr 0 j.toNat) H1
theorem Xd8 {a:Expr}{ta:TA}{p pos:Pos}(hg:Gl X "range")(hm:X.mg "range"=none)(ha:PA X [a] ta)(hs:starEach [a] X.env=[(false,eval a X.env)]:=by rfl):PI X tg (.Call (.Name "range" p) [a] [] pos) (Yjs ta):=by
 intro pins s Y H R I h
 refine Call_ (Xkf I hg hm boot_range (PyProof.Rows.callWith_type1 (thn (ha pos pins s Y H _ I h) λus s1 ⟨vs,H1,I1,r1,q1⟩=>?_) hs rfl))
 obtain⟨j,e,q1,q2,q⟩:=q1
 subst e
 cases r1 with
 |cons r rr=>
  cases rr
  obtain⟨t,rfl⟩:=r
  exact call_range_1 (Yaz I1 (by omega) (by omega) q1 q2 (by simpa using q))
def Ymb (wi:TI)(g:TG)(tb:TS):TS:=λD Y H=>wi Y H λJ H1=>∃W:Nat->Nat->St->Hp->Prop,(∃m,W 0 m Y H1)/\∀i m Y H,W i m Y H->
 (J.stop i H/\D.nx Y H)∨(J.go i H/\∃N:St->Hp->Prop,(∀Y' H',N Y' H'->∃m',m'<m/\W (i+1) m' Y' H')/\∀x H',J.yld i H x H'->g x Y H' λY2 H2=>tb {D with nx:=N,ct:=N,bk:=D.nx} Y2 H2)
def Xug (fp:List Addr)(h:Heap):List (Addr×Obj):=fp.filterMap λb=>(h.get? b).map λo=>(b,o)
theorem Xfj {fp:List Addr}{h:Heap}{b:Addr}{o:Obj}(hb:b∈fp)(e:h.get? b=some o):(b,o)∈Xug fp h:=mem_filterMap.mpr ⟨b,hb,by rw[e];rfl⟩
theorem Xyl {fp:List Addr}{h:Heap}{p:Addr×Obj}(hp:p∈Xug fp h):p.1∈fp/\h.get? p.1=some p.2:=by
 obtain⟨b,hb,e⟩:=mem_filterMap.mp hp
 cases q:h.get? b with
 |none=>rw[q]at e;cases e
 |some o=>
  rw[q]at e
  have e':(b,o)=p:=Option.some.inj e
  subst e'
  exact⟨hb,q⟩
theorem Inv.pinned {pins:List (Addr×Obj)}{Y:St}{H:Hp}{s:Shared}{fp:List Addr}(I:Inv X pins Y H s)(hf:∀b∈fp,Xn9 X pins H b)(ho:∀b∈fp,∃o,s.heap.get? b=some o/\∀v,o.data≠.cell v):Inv X (pins++Xug fp s.heap) Y H s:=
 I.pins_of λp hp=>(mem_append.mp hp).elim (λz=>I.pin p (mem_append_right _ z)) λz=>by
  obtain⟨hb,e⟩:=Xyl z
  obtain⟨f0,f1,f2,_⟩:=hf p.1 hb
  obtain⟨o,e',d⟩:=ho p.1 hb
  rw[e]at e';cases e'
  exact⟨e,f0,f1,f2,d⟩
theorem Inv.unpinned {pins pl:List (Addr×Obj)}{Y:St}{H:Hp}{s:Shared}(I:Inv X (pins++pl) Y H s):Inv X pins Y H s:=I.pins_of λp hp=>I.pin p (mem_append_right _ (mem_append_left _ hp))
theorem Xgr {iter:Expr}{body:List Stmt}{wi:TI}{g:TG}{tb:TS}{pos:Pos}(hp:PassesOwn (model X.prog X.w) X.A X.env X.xe)(hc:X.calm=true)(hi:PI X tg iter wi)(hg:PG X tg g)(hb:PSs X body tb)
  (hs:∀x,foldedSetIterable iter X.env x=pure x:=by intro _;rfl):PS X (.For tg iter body [] pos) (Ymb wi g tb):=by
 intro pins s Y H D I h
 refine wpAny_For (thn (hi pins s Y H _ I h) λv s1 h1=>thn h1 λitv s2 h2=>?_) hs
 obtain⟨it,fp,tn,J,H2,e,I2,T,st2,f2,W,⟨m0,w0⟩,turn⟩:=h2
 subst e
 -- what stays true of the iterator's objects through the loop
 have stat:∀{H':Hp},(∀b∈fp,H' b=none)->∀b∈fp,Xn9 X pins H' b:=λhn b hb=>⟨hn b hb,(f2 b hb).2⟩
 refine codeAny_forLoop_any (λn s'=>∃i Y' H',Inv X pins Y' H' s'/\tn i s'.heap/\(∀b∈fp,H' b=none)/\W i n Y' H') ?_ m0 ⟨0,Y,H2,I2,st2,λb hb=>(f2 b hb).1,w0⟩
 rintro n s3 ⟨i,Y3,H3,I3,st3,fr3,w3⟩
 rcases turn i n Y3 H3 w3 with⟨stop,qn⟩ | ⟨go,N,hN,step⟩
 .refine wpAny_passesOwn hp (thn (T.done X rfl rfl rfl hc i pins s3 Y3 H3 X.xe I3 (stat fr3) st3 stop) λr s4 ⟨hr,I4⟩=>?_)
  subst hr
  exact wpAny_execs_nil ⟨Y3,H3,I4,qn⟩
 .refine wpAny_passesOwn hp (thn (T.item X rfl rfl rfl hc i pins s3 Y3 H3 X.xe I3 (stat fr3) st3 go) λr s4 ⟨u,hr,h4⟩=>?_)
  subst hr
  refine wpAny_passesOwn hp (thn h4 λ_ s5 ⟨x,H5,I5,r5,y5,st5,fr5⟩=>?_)
  have I5':=I5.pinned (stat fr5) (T.obj _ _ st5)
  refine wpAny_passesOwn hp (thn (hg _ s5 Y3 H5 x u _ I5' r5 (step x H5 y5)) λ_ s6 ⟨Y6,H6,I6,q6⟩=>?_)
  refine wpAny_passesOwn hp (thn (hb _ s6 Y6 H6 _ I6 q6) λf s7 q7=>?_)
  have again:∀{Y7:St} {H7:Hp},Inv X (pins++Xug fp s5.heap) Y7 H7 s7->N Y7 H7->∃m,m<n/\∃i Y' H',Inv X pins Y' H' s7/\tn i s7.heap/\(∀b∈fp,H' b=none)/\W i m Y' H':=λ{Y7 H7} I7 n7=>by
   obtain⟨m',hm,w7⟩:=hN Y7 H7 n7
   refine⟨m',hm,i+1,Y7,H7,I7.unpinned,T.keep _ _ _ st5 λb hb o e=>(I7.pin (b,o) (mem_append_right _ (mem_append_right _ (Xfj hb e)))).1,λb hb=>?_,w7⟩
   obtain⟨o,e,d⟩:=T.obj _ _ st5 b hb
   exact (I7.pin (b,o) (mem_append_right _ (mem_append_right _ (Xfj hb e)))).2.1
  cases f with
  |next=>obtain⟨Y7,H7,I7,n7⟩:=q7;exact again I7 n7
  |cont=>obtain⟨Y7,H7,I7,n7⟩:=q7;exact again I7 n7
  |brk=>obtain⟨Y7,H7,I7,q7⟩:=q7;exact⟨Y7,H7,I7.unpinned,q7⟩
  |ret v=>obtain⟨x7,Y7,H7,I7,r7,q7⟩:=q7;exact⟨x7,Y7,H7,I7.unpinned,r7,q7⟩
end
abbrev R2:=V->V->Hp->VK->Prop
def OpR (X:Cx)(f:Value->Value->Sem Value)(r:R2):Prop:=
 ∀(pins:List (Addr×Obj)) (s:Shared) (Y:St) (H:Hp) (x y:V) (v u:Value) (Q:VK),Inv X pins Y H s->Xeb x v->Xeb y u->r x y H Q->
  wpAny (model X.prog X.w) X.A (f v u) (EP X pins Y Q) X.xe s
def UnR (X:Cx)(f:Value->Sem Value)(r:V->Hp->VK->Prop):Prop:=
 ∀(pins:List (Addr×Obj)) (s:Shared) (Y:St) (H:Hp) (x:V) (v:Value) (Q:VK),Inv X pins Y H s->Xeb x v->r x H Q->
  wpAny (model X.prog X.w) X.A (f v) (EP X pins Y Q) X.xe s
def Xhv (X:Cx)(f:Value)(r:List V->Hp->VK->Prop):Prop:=
 ∀(pins:List (Addr×Obj)) (s:Shared) (Y:St) (H:Hp) (xs:List V) (us:List Value) (Q:VK),Inv X pins Y H s->Xb5 xs us->r xs H Q->
  wpAny (model X.prog X.w) X.A (call f us) (EP X pins Y Q) X.xe s
def Ynr (X:Cx)(r:V->Hp->(Bool->Hp->Prop)->Prop):Prop:=
 ∀(pins:List (Addr×Obj)) (s:Shared) (Y:St) (H:Hp) (x:V) (v:Value) (Q:Bool->Hp->Prop),Inv X pins Y H s->Xeb x v->r x H Q->
  wpAny (model X.prog X.w) X.A (truthy v) (TP X pins Y Q) X.xe s
def tOp (r:R2)(ta tb:TE):TE:=λY H Q=>ta Y H λx H1=>tb Y H1 λy H2=>r x y H2 Q
def tUn (r:V->Hp->VK->Prop)(ta:TE):TE:=λY H Q=>ta Y H λx H1=>r x H1 Q
def rI (C:Int->Int->Prop)(g:Int->Int->V):R2:=λx y H Q=>∃i j,x = .int i/\y = .int j/\C i j/\Q (g i j) H
def rI0 (g:Int->Int->V):R2:=λx y H Q=>∃i j,x = .int i/\y = .int j/\Q (g i j) H
def rU (g:Int->V):V->Hp->VK->Prop:=λx H Q=>∃i,x = .int i/\Q (g i) H
section
variable {X:Cx}{a b c:Expr}{ta tb tc:TE}{pos:Pos}
theorem Yly (ha:PE X a ta)(hb:PE X b tb){pins:List (Addr×Obj)}{s:Shared}{Y:St}{H:Hp}{R:V->V->Hp->Prop}(I:Inv X pins Y H s)
  (h:ta Y H λx H1=>tb Y H1 λy H2=>R x y H2) {Q:Value->Shared->Prop} {f:Value->Value->Sem Value}
  (hf:∀v u s2 x y H2,Inv X pins Y H2 s2->Xeb x v->Xeb y u->R x y H2->wpAny (model X.prog X.w) X.A (f v u) Q X.xe s2):
  wpAny (model X.prog X.w) X.A (eval a X.env) (λv s₁=>wpAny (model X.prog X.w) X.A (eval b X.env) (λu s₂=>wpAny (model X.prog X.w) X.A (f v u) Q X.xe s₂) X.xe s₁) X.xe s:=by
 refine thn (ha pins s Y H _ I h) λv s1 ⟨x,H1,I1,r1,q1⟩=>?_
 refine thn (hb pins s1 Y H1 _ I1 q1) λu s2 ⟨y,H2,I2,r2,q2⟩=>?_
 exact hf v u s2 x y H2 I2 r1 r2 q2
theorem Xaz {op:Operator}{r:R2}(ho:OpR X (binaryOp op) r)(ha:PE X a ta)(hb:PE X b tb):PE X (.BinOp a op b pos) (tOp r ta tb):=by
 intro pins s Y H Q I h
 exact wpAny_BinOp (Yly ha hb I h λv u s2 x y H2 I2 rx ry q=>ho pins s2 Y H2 x y v u Q I2 rx ry q)
theorem Yfj {op:UnaryOp}{r:V->Hp->VK->Prop}(ho:UnR X (unaryOp op) r)(ha:PE X a ta):PE X (.UnaryOp op a pos) (tUn r ta):=by
 intro pins s Y H Q I h
 exact UnaryOp_ (thn (ha pins s Y H _ I h) λv s1 ⟨x,H1,I1,r1,q1⟩=>ho pins s1 Y H1 x v Q I1 r1 q1)
theorem opI {f:Value->Value->Sem Value}{C:Int->Int->Prop}{g:Int->Int->Int}
  (rule:∀(i j:Int) (t u:Tok) (s:Shared) (Q:Value->Shared->Prop) (E:Value->Shared->Prop),C i j->Q (.int (g i j) s.toks) {s with toks:=s.toks+1}->wpAny (model X.prog X.w) X.A (f (.int i t) (.int j u)) Q E s):
  OpR X f (rI C λi j=>.int (g i j)):=by
 intro pins s Y H x y v u Q I rx ry h
 obtain⟨i,j,rfl,rfl,hc,q⟩:=h
 obtain⟨t,rfl⟩:=rx
 obtain⟨t',rfl⟩:=ry
 exact rule i j t t' s _ _ hc ⟨.int (g i j),H,I.tok _,⟨_,rfl⟩,q⟩
theorem Ykw {f:Value->Value->Sem Value}{g:Int->Int->Int}
  (rule:∀(i j:Int) (t u:Tok) (s:Shared) (Q:Value->Shared->Prop) (E:Value->Shared->Prop),Q (.int (g i j) s.toks) {s with toks:=s.toks+1}->wpAny (model X.prog X.w) X.A (f (.int i t) (.int j u)) Q E s):
  OpR X f (rI0 λi j=>.int (g i j)):=by
 intro pins s Y H x y v u Q I rx ry h
 obtain⟨i,j,rfl,rfl,q⟩:=h
 obtain⟨t,rfl⟩:=rx
 obtain⟨t',rfl⟩:=ry
 exact rule i j t t' s _ _ ⟨.int (g i j),H,I.tok _,⟨_,rfl⟩,q⟩
theorem Ykx {f:Value->Value->Sem Value}{g:Int->Int->Bool}
  (rule:∀(i j:Int) (t u:Tok) (s:Shared) (Q:Value->Shared->Prop) (E:Value->Shared->Prop),Q (.bool (g i j)) s->wpAny (model X.prog X.w) X.A (f (.int i t) (.int j u)) Q E s):
  OpR X f (rI0 λi j=>.bl (g i j)):=by
 intro pins s Y H x y v u Q I rx ry h
 obtain⟨i,j,rfl,rfl,q⟩:=h
 obtain⟨t,rfl⟩:=rx
 obtain⟨t',rfl⟩:=ry
 exact rule i j t t' s _ _ ⟨.bl (g i j),H,I,rfl,q⟩
def Yng (i j:Int):Prop:=0<j/\j<1073741824
def Yl8 (i j:Int):Prop:=0<=j/\j<=1000000/\i.natAbs<2^64
def Yks (i j:Int):Prop:=(-(2^64)<i/\i<2^64)∨(-(2^64)<j/\j<2^64)
theorem Yks.ok {i j:Int}(h:Yks i j):IntMulOk i j:=by
 rcases h with⟨h1,h2⟩ | ⟨h1,h2⟩
 .exact .of_left (intBits_le_64 h1 h2)
 .exact .of_right (intBits_le_64 h1 h2)
theorem Xu6 (k:Nat):(0:Int)<=2^k:=by
 rw[two_pow_cast]
 exact Int.natCast_nonneg _
theorem Xef:OpR X (binaryOp .Add) (rI0 λi j=>.int (i+j)):=Ykw λ_ _ _ _ _ _ _ q=>add_int q
theorem Xfb:OpR X (binaryOp .Sub) (rI0 λi j=>.int (i-j)):=Ykw λ_ _ _ _ _ _ _ q=>sub_int q
theorem Xjf:OpR X (binaryOp .Mult) (rI Yks λi j=>.int (i*j)):=opI λ_ _ _ _ _ _ _ hc q=>mul_int q hc.ok
theorem Xe7:OpR X (binaryOp .FloorDiv) (rI Yng λi j=>.int (i / j)):=opI λi j _ _ _ _ _ hc q=>by
 have h1:(0:Int)<j:=hc.1
 have h2:j<1073741824:=hc.2
 exact floordiv_int (by omega) (by rw[Int.fdiv_eq_ediv_of_nonneg i (by omega)];exact q) (.inl (PyProof.noPylong_small (by omega)))
theorem Xea:OpR X (binaryOp .Mod) (rI (λ_ j=>0<j) λi j=>.int (i%j)):=opI λi j _ _ _ _ _ hc q=>by
 have h1:(0:Int)<j:=hc
 exact mod_int' (by omega) (by rw[Int.fmod_eq_emod_of_nonneg i (by omega)];exact q)
theorem Yiy:OpR X (binaryOp .Pow) (rI Yl8 λi j=>.int (i^j.toNat)):=opI λ_ _ _ _ _ _ _ hc q=>pow_int_small hc.1 hc.2.1 hc.2.2 q
theorem Xkd:OpR X (binaryOp .LShift) (rI Yl8 λi j=>.int (i*2^j.toNat)):=opI λ_ _ _ _ _ _ _ hc q=>lshift_int_small hc.1 hc.2.1 hc.2.2 q
theorem Xyc:OpR X (binaryOp .RShift) (rI (λ_ j=>0<=j) λi j=>.int (i / 2^j.toNat)):=opI λi j _ _ _ _ _ hc q=>
 rshift_int hc (by rw[Int.fdiv_eq_ediv_of_nonneg i (Xu6 _)];exact q)
theorem Yc7:OpR X (binaryOp .BitAnd) (rI0 λi j=>.int (Builtin.bitAnd i j)):=Ykw λ_ _ _ _ _ _ _ q=>and_int q
theorem Yli:OpR X (binaryOp .BitOr) (rI0 λi j=>.int (Builtin.bitOr i j)):=Ykw λ_ _ _ _ _ _ _ q=>or_int q
theorem unI {f:Value->Sem Value}{g:Int->Int}
  (rule:∀(i:Int) (t:Tok) (s:Shared) (Q:Value->Shared->Prop) (E:Value->Shared->Prop),Q (.int (g i) s.toks) {s with toks:=s.toks+1}->wpAny (model X.prog X.w) X.A (f (.int i t)) Q E s):
  UnR X f (rU λi=>.int (g i)):=by
 intro pins s Y H x v Q I rx h
 obtain⟨i,rfl,q⟩:=h
 obtain⟨t,rfl⟩:=rx
 exact rule i t s _ _ ⟨.int (g i),H,I.tok _,⟨_,rfl⟩,q⟩
theorem Xwm:UnR X (unaryOp .USub) (rU λi=>.int (-i)):=unI λ_ _ _ _ _ q=>neg_int q
end
def Yme:V->V->Bool
 | .non,.non=>true | .non,.int _=>true | .int _,.non=>true | .non,.bl _=>true | .bl _,.non=>true | .non,.str _=>true | .str _,.non=>true
 | .int _,.int _=>true | .bl _,.bl _=>true | .str _,.str _=>true | .byt _,.byt _=>true
 | .int _,.str _=>true | .str _,.int _=>true | .bl _,.str _=>true | .str _,.bl _=>true
 |_,_=>false
def rEq:R2:=λx y H Q=>Yme x y=true/\Q (.bl (decide (x=y))) H
def rNe:R2:=λx y H Q=>Yme x y=true/\Q (.bl (!decide (x=y))) H
theorem Xzt {i j:Int}:decide (V.int i=V.int j)=(i==j):=by
 rw[Bool.eq_iff_iff]
 simp
theorem Ydo {i j:Bool}:decide (V.bl i=V.bl j)=(i==j):=by
 rw[Bool.eq_iff_iff]
 simp
theorem Xzs {i j:Str}:decide (V.str i=V.str j)=(i==j):=by
 rw[Bool.eq_iff_iff]
 simp
theorem Xzu {i j:Array UInt8}:decide (V.byt i=V.byt j)=(i.toList==j.toList):=by
 rw[Bool.eq_iff_iff]
 cases i
 cases j
 simp
section
variable {X:Cx}{a b c:Expr}{ta tb tc:TE}{pos:Pos}
theorem Xbq {pins:List (Addr×Obj)}{Y:St}{H:Hp}{s:Shared}{Q:VK}{k k':Bool}(I:Inv X pins Y H s)(q:Q (.bl k) H)(e:k=k'):EP X pins Y Q (.bool k') s:=by
 subst e
 exact⟨.bl k,H,I,rfl,q⟩
theorem Xi1:OpR X (compareOp .Eq) rEq:=by
 intro pins s Y H x y v u Q I rx ry h
 obtain⟨hs,q⟩:=h
 cases x with
 |non=>
  cases rx
  cases y with
  |non=>cases ry;exact PySem.EqNone.eq_none_none (Xbq I q (by simp))
  |bl j=>cases ry;exact PySem.EqNone.eq_none_bool (Xbq I q (by simp))
  |int j=>obtain⟨t',rfl⟩:=ry;exact PySem.EqNone.eq_none_int (Xbq I q (by simp))
  |str j=>obtain⟨t',rfl⟩:=ry;exact PySem.EqNone.eq_none_str (Xbq I q (by simp))
  |_=>exact absurd (show false=true from hs) Bool.false_ne_true
 |bl i=>
  cases rx
  cases y with
  |non=>cases ry;exact PySem.EqNone.eq_bool_none (Xbq I q (by simp))
  |bl j=>cases ry;exact eq_bool (Xbq I q Ydo)
  |str j=>obtain⟨t',rfl⟩:=ry;exact PySem.EqMixed.eq_bool_str (Xbq I q (by simp))
  |_=>exact absurd (show false=true from hs) Bool.false_ne_true
 |int i=>
  obtain⟨t,rfl⟩:=rx
  cases y with
  |non=>cases ry;exact PySem.EqNone.eq_int_none (Xbq I q (by simp))
  |int j=>obtain⟨t',rfl⟩:=ry;exact eq_int (Xbq I q Xzt)
  |str j=>obtain⟨t',rfl⟩:=ry;exact PySem.EqMixed.eq_int_str (Xbq I q (by simp))
  |_=>exact absurd (show false=true from hs) Bool.false_ne_true
 |str i=>
  obtain⟨t,rfl⟩:=rx
  cases y with
  |non=>cases ry;exact PySem.EqNone.eq_str_none (Xbq I q (by simp))
  |bl j=>cases ry;exact PySem.EqMixed.eq_str_bool (Xbq I q (by simp))
  |int j=>obtain⟨t',rfl⟩:=ry;exact PySem.EqMixed.eq_str_int (Xbq I q (by simp))
  |str j=>obtain⟨t',rfl⟩:=ry;exact eq_str (Xbq I q Xzs)
  |_=>exact absurd (show false=true from hs) Bool.false_ne_true
 |byt i=>
  obtain⟨t,rfl⟩:=rx
  cases y with
  |byt j=>obtain⟨t',rfl⟩:=ry;exact PySem.W.eq_bytes (Xbq I q Xzu)
  |_=>exact absurd (show false=true from hs) Bool.false_ne_true
 |_=>cases y<;>exact absurd (show false=true from hs) Bool.false_ne_true
theorem Xrg:OpR X (compareOp .NotEq) rNe:=by
 intro pins s Y H x y v u Q I rx ry h
 obtain⟨hs,q⟩:=h
 cases x with
 |non=>
  cases rx
  cases y with
  |non=>cases ry;exact PySem.EqNone.ne_none_none (Xbq I q (by simp))
  |bl j=>cases ry;exact PySem.EqNone.ne_none_bool (Xbq I q (by simp))
  |int j=>obtain⟨t',rfl⟩:=ry;exact PySem.EqNone.ne_none_int (Xbq I q (by simp))
  |str j=>obtain⟨t',rfl⟩:=ry;exact PySem.EqNone.ne_none_str (Xbq I q (by simp))
  |_=>exact absurd (show false=true from hs) Bool.false_ne_true
 |bl i=>
  cases rx
  cases y with
  |non=>cases ry;exact PySem.EqNone.ne_bool_none (Xbq I q (by simp))
  |bl j=>cases ry;exact ne_bool (Xbq I q (congrArg not Ydo))
  |str j=>obtain⟨t',rfl⟩:=ry;exact PySem.EqMixed.ne_bool_str (Xbq I q (by simp))
  |_=>exact absurd (show false=true from hs) Bool.false_ne_true
 |int i=>
  obtain⟨t,rfl⟩:=rx
  cases y with
  |non=>cases ry;exact PySem.EqNone.ne_int_none (Xbq I q (by simp))
  |int j=>obtain⟨t',rfl⟩:=ry;exact ne_int (Xbq I q (congrArg not Xzt))
  |str j=>obtain⟨t',rfl⟩:=ry;exact PySem.EqMixed.ne_int_str (Xbq I q (by simp))
  |_=>exact absurd (show false=true from hs) Bool.false_ne_true
 |str i=>
  obtain⟨t,rfl⟩:=rx
  cases y with
  |non=>cases ry;exact PySem.EqNone.ne_str_none (Xbq I q (by simp))
  |bl j=>cases ry;exact PySem.EqMixed.ne_str_bool (Xbq I q (by simp))
  |int j=>obtain⟨t',rfl⟩:=ry;exact PySem.EqMixed.ne_str_int (Xbq I q (by simp))
  |str j=>obtain⟨t',rfl⟩:=ry;exact ne_str (Xbq I q (congrArg not Xzs))
  |_=>exact absurd (show false=true from hs) Bool.false_ne_true
 |byt i=>
  obtain⟨t,rfl⟩:=rx
  cases y with
  |byt j=>obtain⟨t',rfl⟩:=ry;exact PySem.W.ne_bytes (Xbq I q (congrArg not Xzu))
  |_=>exact absurd (show false=true from hs) Bool.false_ne_true
 |_=>cases y<;>exact absurd (show false=true from hs) Bool.false_ne_true
theorem Xrh:OpR X (compareOp .Lt) (rI0 λi j=>.bl (decide (i<j))):=Ykx λ_ _ _ _ _ _ _ q=>lt_int q
theorem Yiz:OpR X (compareOp .LtE) (rI0 λi j=>.bl (decide (i<=j))):=Ykx λ_ _ _ _ _ _ _ q=>le_int q
theorem Ybe:OpR X (compareOp .Gt) (rI0 λi j=>.bl (decide (j<i))):=Ykx λ_ _ _ _ _ _ _ q=>gt_int q
theorem Ybf:OpR X (compareOp .GtE) (rI0 λi j=>.bl (decide (j<=i))):=Ykx λ_ _ _ _ _ _ _ q=>ge_int q
theorem Xyd:OpR X (compareOp .In) (λx y H Q=>∃i j,x = .str i/\y = .str j/\Q (.bl (!(Builtin.Str.occurrences j i 0 j.length 1).isEmpty)) H):=by
 intro pins s Y H x y v u Q I rx ry h
 obtain⟨i,j,rfl,rfl,q⟩:=h
 obtain⟨t,rfl⟩:=rx
 obtain⟨t',rfl⟩:=ry
 exact in_str (Xbq I q rfl)
theorem Yi0:OpR X (compareOp .Is) (λx y H Q=>y = .non/\Q (.bl (decide (x = .non))) H):=by
 intro pins s Y H x y v u Q I rx ry h
 obtain⟨rfl,q⟩:=h
 cases ry
 refine is_none_gen (Xbq I q ?_)
 cases x<;>first
  | (cases rx;rfl)
  | (obtain⟨t,rfl⟩:=rx;rfl)
theorem Yfo:OpR X (compareOp .IsNot) (λx y H Q=>y = .non/\Q (.bl (!decide (x = .non))) H):=by
 intro pins s Y H x y v u Q I rx ry h
 obtain⟨rfl,q⟩:=h
 cases ry
 refine isnot_none_gen (Xbq I q ?_)
 cases x<;>first
  | (cases rx;rfl)
  | (obtain⟨t,rfl⟩:=rx;rfl)
theorem Xrf:OpR X (compareOp .NotIn) (λx y H Q=>∃i j,x = .str i/\y = .str j/\Q (.bl (!(!(Builtin.Str.occurrences j i 0 j.length 1).isEmpty))) H):=by
 intro pins s Y H x y v u Q I rx ry h
 obtain⟨i,j,rfl,rfl,q⟩:=h
 obtain⟨t,rfl⟩:=rx
 obtain⟨t',rfl⟩:=ry
 exact notIn_str (Xbq I q rfl)
theorem Xbg (b:Expr){op:CmpOp}(h:op≠.In:=by decide)(h2:op≠.NotIn:=by decide):behindInMarks op b=false:=by
 have e1:(op==CmpOp.In)=false:=by cases op<;>first |rfl |exact absurd rfl h
 have e2:(op==CmpOp.NotIn)=false:=by cases op<;>first |rfl |exact absurd rfl h2
 cases b<;>simp[behindInMarks,e1,e2]
theorem Xfv {op:CmpOp}{r:R2}(ho:OpR X (compareOp op) r)(ha:PE X a ta)(hb:PE X b tb)(hm:behindInMarks op b=false):PE X (.Compare a [op] [b] pos) (tOp r ta tb):=by
 intro pins s Y H Q I h
 exact wpAny_Compare1 (Yly ha hb I h λv u s2 x y H2 I2 rx ry q=>ho pins s2 Y H2 x y v u Q I2 rx ry q) hm
def Yhm (t:TE):TT:=λY H Q=>t Y H λx H'=>∃k,x = .bl k/\Q k H'
theorem Xbe {op:CmpOp}{r:R2}(ho:OpR X (compareOp op) r)(ha:PE X a ta)(hb:PE X b tb)(hm:behindInMarks op b=false):PT X (.Compare a [op] [b] pos) (Yhm (tOp r ta tb)):=by
 intro pins s Y H Q I h
 refine wpAny_isTrue_Compare1 (thn (ha pins s Y H _ I h) λv s1 ⟨x,H1,I1,r1,q1⟩=>thn (hb pins s1 Y H1 _ I1 q1) λu s2 ⟨y,H2,I2,r2,q2⟩=>
  thn (ho pins s2 Y H2 x y v u _ I2 r1 r2 q2) λc s3 ⟨z,H3,I3,r3,k,e,q3⟩=>?_) hm
 subst e
 cases r3
 exact wpAny_truthy_bool ⟨H3,I3,q3⟩
def Ycm (r r':R2)(ta tb tc:TE):TE:=λY H Q=>ta Y H λx H1=>tb Y H1 λy H2=>r x y H2 λz H3=>∃k,z = .bl k/\
 (if k=true then tc Y H3 λw' H4=>r' y w' H4 Q else Q (.bl false) H3)
theorem Ybc {op op':CmpOp}{r r':R2}(ho:OpR X (compareOp op) r)(ho':OpR X (compareOp op') r')(ha:PE X a ta)(hb:PE X b tb)(hc:PE X c tc)
  (hm:lastMarks [op,op'] [b,c]=false:=by with_unfolding_all rfl):PE X (.Compare a [op,op'] [b,c] pos) (Ycm r r' ta tb tc):=by
 intro pins s Y H Q I h
 refine Compare_chain (thn (ha pins s Y H _ I h) λv s1 ⟨x,H1,I1,r1,q1⟩=>chain_link (thn (hb pins s1 Y H1 _ I1 q1) λu s2 ⟨y,H2,I2,r2,q2⟩=>
  thn (ho pins s2 Y H2 x y v u _ I2 r1 r2 q2) λd s3 ⟨z,H3,I3,r3,k,e,q3⟩=>?_)) hm
 subst e
 cases r3
 refine wpAny_truthy_bool ?_
 cases k with
 |false=>exact ite_ff ⟨.bl false,H3,I3,rfl,q3⟩
 |true=>exact ite_tt (chain_last (thn (hc pins s3 Y H3 _ I3 q3) λw' s4 ⟨z',H4,I4,r4,q4⟩=>ho' pins s4 Y H4 y z' u w' Q I4 r2 r4 q4))
def Yl2 (K:Frag)(x:V)(H:Hp)(k:Bool):Prop:=
 match x with
 | .non=>k=false
 | .bl b=>k=b
 | .int i=>k=(i != 0)
 | .str y=>y.length<=sizeLine/\k=((y.length:Int) != 0)
 | .byt y=>y.size<=sizeLine/\k=((y.size:Int) != 0)
 | .ref p=>(∃xs,SqL K H p xs/\k = !xs.isEmpty)∨(∃xs,SqT K H p xs/\k = !xs.isEmpty)∨∃kvs,H p=some (.dK kvs)/\k = !kvs.isEmpty
 |_=>False
theorem Xv2 {κ:Type}{kvs:List (κ×V)}{vs:List (κ×Value)}(r:KV kvs vs):(!vs.isEmpty) = !kvs.isEmpty:=by
 cases r<;>rfl
theorem Xov {xs:List V}{its:List Value}(r:Xb5 xs its):(!its.toArray.isEmpty) = !xs.isEmpty:=by
 cases r<;>simp
theorem Xlk:(sizeLine:Nat)<2^63:=by rw[sizeLine_eq];decide
theorem Yhj:Ynr X (λx H Q=>∃k,Yl2 X.K x H k/\Q k H):=by
 intro pins s Y H x v Q I rx h
 obtain⟨k,e,q⟩:=h
 have hl:=Xlk
 have hs:sizeLine=16777216:=sizeLine_eq
 cases x with
 |non=>
  cases rx
  have e':k=false:=e
  subst e'
  exact truthy_none ⟨H,I,q⟩
 |bl b=>
  cases rx
  have e':k=b:=e
  subst e'
  exact wpAny_truthy_bool ⟨H,I,q⟩
 |int i=>
  obtain⟨t,rfl⟩:=rx
  have e':k=(i != 0):=e
  subst e'
  exact PySem.P.truthy_int ⟨H,I,q⟩
 |str y=>
  obtain⟨t,rfl⟩:=rx
  obtain⟨hy,e'⟩:y.length<=sizeLine/\k=((y.length:Int) != 0):=e
  subst e'
  exact PySem.P.truthy_str (by omega) ⟨H,I.tok _,q⟩
 |byt y=>
  obtain⟨t,rfl⟩:=rx
  obtain⟨hy,e'⟩:y.size<=sizeLine/\k=((y.size:Int) != 0):=e
  subst e'
  exact PySem.W.truthy_bytes (by omega) ⟨H,I.tok _,q⟩
 |ref p=>
  cases rx
  have e':(∃xs,SqL X.K H p xs/\k = !xs.isEmpty)∨(∃xs,SqT X.K H p xs/\k = !xs.isEmpty)∨∃kvs,H p=some (.dK kvs)/\k = !kvs.isEmpty:=e
  rcases e' with⟨xs,hx,e'⟩ | ⟨xs,hx,e'⟩ | ⟨kvs,hx,e'⟩
  .subst e'
   obtain⟨its,r,pl,hz⟩:=I.list hx
   have hlen:=r.length
   exact wpAny_truthy_list pl.isList (by simp only[size_toArray];omega) ⟨H,I.tok _,by rw[Xov r];exact q⟩
  .subst e'
   obtain⟨its,r,pl,hz⟩:=I.tuple hx
   have hlen:=r.length
   exact truthy_tuple pl (by simp only[size_toArray];omega) ⟨H,I.tok _,by rw[Xov r];exact q⟩
  .subst e'
   obtain⟨hz,hS,vs,r,m⟩:kvs.length<=sizeLine/\(p==sysModules)=false/\∃vs,KV kvs vs/\s.heap.DictOf (Xs6 X.prog X.w) p vs:=I.hok p _ hx
   have hlen:kvs.length=vs.length:=Paired.length r
   exact wpAny_truthy_dict hS m (by omega) ⟨H,I.tok _,by rw[Xv2 r];exact q⟩
 |_=>exact (show False from e).elim
theorem Ya2 (ha:PE X a ta)(he:∀whole,isTrue a X.env whole=(do let v <- whole;standAt a.pos;holding [v] (truthy v))):
  PT X a (λY H Q=>ta Y H λx H'=>∃k,Yl2 X.K x H' k/\Q k H'):=by
 intro pins s Y H Q I h
 exact isTrue_plain (thn (ha pins s Y H _ I h) λv s1 ⟨x,H1,I1,r1,q1⟩=>Yhj pins s1 Y H1 x v Q I1 r1 q1) (he _)
theorem Xos:OpR X (binaryOp .Add) (λx y H Q=>∃i j,x = .str i/\y = .str j/\i.length+j.length<=sizeLine/\Q (.str (i++j)) H):=by
 intro pins s Y H x y v u Q I rx ry h
 obtain⟨i,j,rfl,rfl,hz,q⟩:=h
 obtain⟨t,rfl⟩:=rx
 obtain⟨t',rfl⟩:=ry
 exact add_str (λt' tk=>⟨.str (i++j),H,I.tok _,⟨_,rfl⟩,q⟩) hz
theorem Xiy {x:V}{us:List Value}(r:Xb5 [x] us):∃u,us=[u]/\Xeb x u:=by
 cases r with
 |cons r1 r2=>cases r2;exact⟨_,rfl,r1⟩
theorem Yd4 {x y:V}{us:List Value}(r:Xb5 [x,y] us):∃u w',us=[u,w']/\Xeb x u/\Xeb y w':=by
 cases r with
 |cons r1 r2=>
  cases r2 with
  |cons r3 r4=>cases r4;exact⟨_,_,rfl,r1,r3⟩
theorem Xuy:Xhv X (.builtin "abs") (λxs H Q=>∃i,xs=[.int i]/\Q (.int (if i<0 then -i else i)) H):=by
 intro pins s Y H xs us Q I r h
 obtain⟨i,rfl,q⟩:=h
 obtain⟨u,rfl,t,rfl⟩:=Xiy r
 exact call_abs_int λu tk=>⟨.int (if i<0 then -i else i),H,I.tok _,⟨_,rfl⟩,q⟩
theorem Xgd:Xhv X (.type "str") (λxs H Q=>∃i,xs=[.int i]/\i.natAbs.log2<1920/\Q (.str (toString i)) H):=by
 intro pins s Y H xs us Q I r h
 obtain⟨i,rfl,hz,q⟩:=h
 obtain⟨u,rfl,t,rfl⟩:=Xiy r
 exact PySem.P.str_of_int hz ⟨.str _,H,I.tok _,⟨_,rfl⟩,q⟩
end
structure ObjM (h:Heap) (x dx C:Addr) (mA:Str->Option Value):Prop where
 obj:h.get? x=some (instObj C dx)
 ns:h.Ns1 dx mA
 ne:dx≠x
theorem Xys {h:Heap}{dx:Addr}{mA:Str->Option Value}(n:h.Ns1 dx mA):∃od,h.get? dx=some od/\∀name,lookIn name od=some (mA name):=by
 obtain⟨o,es,ep,ho,hd,hk,_,hm⟩:=n
 refine⟨o,ho,λname=>?_⟩
 have e:=hm name
 unfold nsFind findBy at e
 rw[<- Array.find?_toList]at e
 unfold lookIn
 rw[hd]
 dsimp only
 split
 .rename_i y q
  rw[q]at e
  exact congrArg some e
 .rename_i q
  rw[q]at e
  have a:es.toList.any (·.refKey)=false:=by
   rw[List.any_eq_false]
   intro y hy
   obtain⟨z,t,hkey⟩:=hk y (Array.mem_toList_iff.mp hy)
   simp[DictEntry.refKey,hkey]
  have a':¬ es.toList.any (·.refKey)=true:=by rw[a];exact Bool.false_ne_true
  rw[if_neg a']
  exact congrArg some e
theorem ObjM.look {h:Heap}{x dx C:Addr}{mA:Str->Option Value}(I:ObjM h x dx C mA):∃od,PySem.W.InstAt h x (instObj C dx) C (some od)/\∀name,lookIn name od=some (mA name):=
 let⟨od,ho,hl⟩:=Xys I.ns
 ⟨od,⟨I.obj,rfl,rfl,ho⟩,hl⟩
section
variable {prog:Program}{w:World}{A:Around}{E:Value->Shared->Prop}{s:Shared}{K:Frag}{x dx C f:Addr}{mA:Str->Option Value}{name:Str}{v:Value}
theorem Ygl {expr:Bool}{Q:Value->Shared->Prop}(X:K.In s.heap)(I:ObjM s.heap x dx C mA)(hg:plainGet K C name=true)(hh:PySem.W.hasDictIn K C=true)
  (ha:PySem.W.findIn K (.ref C) name=some none) (hv:mA name=some v) (hv':handedIn v=true) (h:Q v {s with toks:=s.toks+1}):
  wpAny (model prog w) A (getAttr (.ref x) name expr) Q E s:=by
 obtain⟨od,J,hl⟩:=I.look
 exact PySem.W.get_value X J (plainGet_of hg).1 (PySem.W.findObj_own hh ha rfl (by rw[hl,hv])) hv' h
theorem Yb0 {pl:Sem Bool}{Q:Value×List Value->Shared->Prop}(X:K.In s.heap)(I:ObjM s.heap x dx C mA)(hg:plainGet K C name=true)
  (hf:PySem.W.findIn K (.ref C) name=some (some (.ref f))) (ht:isFn K (.ref f)=true) (hv:mA name=none) (h:Q (.ref f,[.ref x]) s):
  wpAny (model prog w) A (getMethod (.ref x) name pl) Q E s:=by
 obtain⟨od,J,hl⟩:=I.look
 exact PySem.W.method_fn X J (plainGet_of hg).1 (plainGet_of hg).2 hf (beq_iff_eq.mp ht) (by show (lookIn name od).map (·.isSome)=some false;rw[hl,hv];rfl) h
theorem Yei {ns:List Str}{Q:Unit->Shared->Prop}(X:K.In s.heap)(I:ObjM s.heap x dx C mA)
  (hs:PySem.W.findIn K (.ref C) "__setattr__"=some (some (.builtin "object.__setattr__"))) (hp:plainOver K C=true) (ht:takerIn K C name=some none) (hh:PySem.W.hasDictIn K C=true)
  (hw:PySem.Within mA ns) (hsz:ns.length<=sizeLine)
  (h:∀h',ObjM h' x dx C (λy=>if y=name then some v else mA y)->Heap.SameBut dx s.heap h'->Q () {s with heap:=h',toks:=s.toks+2}):
  wpAny (model prog w) A (setAttr (.ref x) name v) Q E s:=by
 obtain⟨od,J,hl⟩:=I.look
 refine PySem.W.set_plain X J hs (PySem.W.osa_open (s:={s with toks:=s.toks+1}) (r:=none) X J hp ht λb=>?_)
 obtain⟨cd,hc,hd'⟩:=PySem.W.any_some hh
 have hx:s.heap.get? x=some ⟨.ref C,some dx,.plain,#[]⟩:=I.obj
 refine wpAny_bind (wpAny_pure (wpAny_bind (wpAny_bind (wpAny_loadPart hx (wpAny_bind (PySem.W.Looks.here (s:={s with toks:=s.toks+1}) (PySem.W.looks_clsIn X hc) ?_))))))
 rw[hd']
 refine wpAny_pure (a:=some dx) (wpAny_bind (wpAny_pure (wpAny_bind ?_)))
 refine wpAny_nsSet1 (s:={s with toks:=s.toks+1}) I.ns λh' hn2 hs2=>?_
 obtain⟨oD,esD,epD,hoD,hdD,hcD⟩:=hn2.count (PySem.Within.cons name v hw)
 refine wpAny_bind (wpAny_lookBehind hoD (by rw[hdD];exact pastItsLine_dict (le_trans hcD (by rw[length_cons];omega))) ?_)
 exact wpAny_pure (h _ ⟨(hs2.2 _ (Ne.symm I.ne)).trans I.obj,hn2,I.ne⟩ hs2)
theorem Ybn {R:Result->Shared->Prop}{vs:List Value}{kw:List (Str×Value)}(X:K.In s.heap)(hm:makesIn K C=true)
  (hi:PySem.W.findIn K (.ref C) "__init__"=some (some (.ref f))) (hf:PySem.W.typeIn K (.ref f)=some (.type "function"))
  (h:codeAny (model prog w) (A.under (.builtin "type.__call__" ⟨.ref C::vs,kw⟩)) (.call (.ref f) ⟨.ref (s.heap.objs.size+1)::vs,kw⟩) (PySem.W.InitBack (s.heap.objs.size+1) R)
   {s with heap:=(s.heap.push emptyDict).push (instObj C s.heap.objs.size)}):
  codeAny (model prog w) A (.call (.ref C) ⟨vs,kw⟩) R s:=by
 obtain⟨hh,g,d,t,os⟩:=s
 exact PySem.W.make_core (PySem.W.makes_of X hm) (PySem.W.looks_findIn X hi) (λself=>PySem.W.bind_fn X self hf) (.inl rfl) h
end
def Xmv (f:Str)(v:V):List (Str×V)->List (Str×V)
 | []=>[(f,v)]
 | (g,x)::r=>if g=f then (g,v)::r else (g,x)::Xmv f v r
theorem Xm7 (f g:Str)(v:V):∀fs:List (Str×V),(Xmv f v fs).lookup g=if g=f then some v else fs.lookup g
 | []=>by
  show List.lookup g [(f,v)]=_
  by_cases h:g=f
  .have hb:(g==f)=true:=beq_iff_eq.mpr h
   simp only[List.lookup,hb,if_pos h]
  .have hb:(g==f)=false:=beq_eq_false_iff_ne.mpr h
   simp only[List.lookup,hb,if_neg h]
 | (k,x)::r=>by
  have ih:=Xm7 f g v r
  rw[show Xmv f v ((k,x)::r)=(if k=f then (k,v)::r else (k,x)::Xmv f v r) from rfl]
  by_cases hk:k=f
  .rw [if_pos hk]
   by_cases h:g=k
   .have hb:(g==k)=true:=beq_iff_eq.mpr h
    simp only[List.lookup,hb,if_pos (h.trans hk)]
   .have hb:(g==k)=false:=beq_eq_false_iff_ne.mpr h
    simp only[List.lookup,hb,if_neg (λe:g=f=>h (e.trans hk.symm))]
  .rw [if_neg hk]
   by_cases h:g=k
   .have hb:(g==k)=true:=beq_iff_eq.mpr h
    simp only[List.lookup,hb,if_neg (λe:g=f=>hk (h.symm.trans e))]
   .have hb:(g==k)=false:=beq_eq_false_iff_ne.mpr h
    simp only[List.lookup,hb]
    exact ih
theorem Xm9 (f:Str)(v:V):∀fs:List (Str×V),f∈(Xmv f v fs).map (·.1)/\∀g,g∈fs.map (·.1)->g∈(Xmv f v fs).map (·.1)
 | []=>⟨by simp[Xmv],λg h=>by simp at h⟩
 | (k,x)::r=>by
  obtain⟨i1,i2⟩:=Xm9 f v r
  rw[show Xmv f v ((k,x)::r)=(if k=f then (k,v)::r else (k,x)::Xmv f v r) from rfl]
  by_cases hk:k=f
  .rw [if_pos hk]
   subst hk
   exact⟨by simp,λg h=>by simpa using h⟩
  .rw [if_neg hk]
   refine⟨?_,λg h=>?_⟩
   .rw [map_cons]
    exact mem_cons_of_mem _ i1
   .rw [map_cons]at h ⊢
    rcases mem_cons.mp h with e |e
    .exact mem_cons.mpr (.inl e)
    .exact mem_cons_of_mem _ (i2 g e)
theorem Xm8 (f:Str)(v:V):∀fs:List (Str×V),(Xmv f v fs).length<=fs.length+1
 | []=>by simp[Xmv]
 | (k,x)::r=>by
  have ih:=Xm8 f v r
  rw[show Xmv f v ((k,x)::r)=(if k=f then (k,v)::r else (k,x)::Xmv f v r) from rfl]
  by_cases hk:k=f
  .rw [if_pos hk,length_cons,length_cons];omega
  .rw [if_neg hk,length_cons,length_cons];omega
theorem Yag.some_of {v:V}{o:Option Value}(r:Yag (some v) o):∃u,o=some u/\Xeb v u:=by
 cases o with
 |none=>exact (show False from r).elim
 |some u=>exact⟨u,rfl,r⟩
theorem Yag.none_of {o:Option Value}(r:Yag none o):o=none:=by
 cases o with
 |none=>rfl
 |some u=>exact (show False from r).elim
theorem Xy2 {v:V}{u:Value}(r:Xeb v u):handedIn u=true:=by
 cases v with
 |non=>cases (show u=Value.none from r);rfl
 |bl b=>cases (show u=Value.bool b from r);rfl
 |int i=>obtain⟨t,e⟩:=(show ∃t,u=Value.int i t from r);cases e;rfl
 |str x=>obtain⟨t,e⟩:=(show ∃t,u=Value.str x t from r);cases e;rfl
 |byt b=>obtain⟨t,e⟩:=(show ∃t,u=Value.bytes b t from r);cases e;rfl
 |flt b=>obtain⟨t,e⟩:=(show ∃t,u=Value.float b t from r);cases e;rfl
 |ref a=>cases (show u=Value.ref a from r);rfl
 |ty n=>cases (show u=Value.type n from r);rfl
section
variable {P:Program}{w:World}{H H':Hp}{h h':Heap}{a C dx:Addr}{fs fs':List (Str×V)}
theorem Xpt (hok:HOk P w H h)(e:H a=some (.ins C dx fs)):∃mA,ObjM h a dx C mA/\(∀f,Yag (fs.lookup f) (mA f))/\PySem.Within mA (fs.map (·.1))/\fs.length<=1000/\H dx=some (.own a):=by
 obtain⟨d,z,ne,ob,mA,n,r,q⟩:=(show Xf2 P w H h a (.ins C dx fs) from hok a _ e)
 exact⟨mA,⟨ob,n,ne⟩,r,q,z,d⟩
end
structure Cls (K:Frag) (C:Addr):Prop where
 pg:plainGet K C Str.empty=true
 hd:PySem.W.hasDictIn K C=true
 po:plainOver K C=true
 sa:PySem.W.findIn K (.ref C) "__setattr__"=some (some (.builtin "object.__setattr__"))
theorem Cls.get {K:Frag}{C:Addr}(c:Cls K C)(f:Str):plainGet K C f=true:=c.pg
def Xkl (K:Frag)(C:Addr)(f:Str):Prop:=PySem.W.findIn K (.ref C) f=some none
theorem Xkl.taker {K:Frag}{C:Addr}{f:Str}(n:Xkl K C f):takerIn K C f=some none:=by
 unfold takerIn
 rw[show PySem.W.findIn K (.ref C) f=some none from n]
 rfl
structure Meth (K:Frag) (C:Addr) (m:Str) (f:Addr):Prop where
 at_:PySem.W.findIn K (.ref C) m=some (some (.ref f))
 fn:isFn K (.ref f)=true
 kp:keepIn K (.ref f)=true
section
variable {X:Cx}{pins:List (Addr×Obj)}{Y:St}{H:Hp}{s:Shared}{a C dx:Addr}{fs:List (Str×V)}{f:Str}{v:V}{A:Around}{E:Value->Shared->Prop}
theorem Xox {b:Bool}{Q:Value->Shared->Prop}(I:Inv X pins Y H s)(e:H a=some (.ins C dx fs))(c:Cls X.K C)(n:Xkl X.K C f)(l:fs.lookup f=some v)
  (h:∀u s',Inv X pins Y H s'->Xeb v u->Q u s'):wpAny (model X.prog X.w) A (getAttr (.ref a) f b) Q E s:=by
 obtain⟨mA,O,r,_,_,_⟩:=Xpt I.hok e
 obtain⟨u,hu,ru⟩:=Yag.some_of (v:=v) (o:=mA f) (by rw[<- l];exact r f)
 exact Ygl I.kIn O (c.get f) c.hd n hu (Xy2 ru) (h u _ (I.tok _) ru)
theorem Xow {m:Str}{g:Addr}{pl:Sem Bool}{Q:Value×List Value->Shared->Prop}(I:Inv X pins Y H s)(e:H a=some (.ins C dx fs))(c:Cls X.K C)(k:Meth X.K C m g)(l:fs.lookup m=none)
  (h:Q (.ref g,[.ref a]) s):wpAny (model X.prog X.w) A (getMethod (.ref a) m pl) Q E s:=by
 obtain⟨mA,O,r,_,_,_⟩:=Xpt I.hok e
 have hn:mA m=none:=Yag.none_of (by rw[<- l];exact r m)
 exact Yb0 I.kIn O (c.get m) k.at_ k.fn hn h
theorem Xom {y:V}{u:Value}{Q:Unit->Shared->Prop}(I:Inv X pins Y H s)(e:H a=some (.ins C dx fs))(c:Cls X.K C)(n:Xkl X.K C f)(hl:fs.length<1000)(ry:Xeb y u)
  (h:∀s',Inv X pins Y (upd H a (.ins C dx (Xmv f y fs))) s'->Q () s'):wpAny (model X.prog X.w) A (setAttr (.ref a) f u) Q E s:=by
 obtain⟨mA,O,r,wi,_,ho⟩:=Xpt I.hok e
 have hz:(fs.map (·.1)).length<=sizeLine:=by rw[length_map,sizeLine_eq];omega
 refine Yei I.kIn O c.sa c.po n.taker c.hd wi hz λh' O' sb=>h _ ?_
 have hd:∃o,h'.get? dx=some o:=let⟨o,_,_,e',_⟩:=O'.ns;⟨o,e'⟩
 refine I.write (x:=a) (e:=dx) (by rw[e];exact True.intro) (.inr ho) (λb q hb z=>(sb.2 b hb).trans z) hd ?_
 refine⟨by rw[Xbv O.ne];exact ho,?_,O.ne,O'.obj,_,O'.ns,λg=>?_,λg hg=>?_⟩
 .have:=Xm8 f y fs;omega
 .show Yag ((Xmv f y fs).lookup g) (if g=f then some u else mA g)
  rw[Xm7]
  by_cases q:g=f
  .rw [if_pos q,if_pos q];exact ry
  .rw [if_neg q,if_neg q];exact r g
 .by_cases q:g=f
  .rw [q];exact (Xm9 f y fs).1
  .refine (Xm9 f y fs).2 g (wi g λz=>hg ?_)
   show (if g=f then some u else mA g)=none
   rw[if_neg q];exact z
theorem Inv.made (I:Inv X pins Y H s):Inv X pins Y (upd (upd H s.heap.objs.size (.own (s.heap.objs.size+1))) (s.heap.objs.size+1) (.ins C s.heap.objs.size []))
  {s with heap:=(s.heap.push emptyDict).push (instObj C s.heap.objs.size)}:=by
 have e1:(s.heap.push emptyDict).get? s.heap.objs.size=some emptyDict:=get?_push_size s.heap rfl
 have e2:((s.heap.push emptyDict).push (instObj C s.heap.objs.size)).get? (s.heap.objs.size+1)=some (instObj C s.heap.objs.size):=by
  have:=get?_push_size (s.heap.push emptyDict) (o:=instObj C s.heap.objs.size) rfl
  rwa[size_push]at this
 have e3:(s.heap.push emptyDict).Ns s.heap.objs.size (λ_=>none):=⟨emptyDict,#[],_,e1,rfl,(λe he=>absurd he (by simp)),λ_=>rfl⟩
 have I1:=I.laid (a:=s.heap.objs.size) (o:=.own (s.heap.objs.size+1)) (h':=s.heap.push emptyDict) (t':=s.toks) (λb u q=>get?_push_of_some _ q) (Nat.le_refl _) ⟨_,e1⟩
 refine I1.laid (a:=s.heap.objs.size+1) (o:=.ins C s.heap.objs.size []) (t':=s.toks) (λb u q=>get?_push_of_some _ q) (le_of_eq (size_push _ _)) ?_
 have ne:s.heap.objs.size≠s.heap.objs.size+1:=ne_of_lt (Nat.lt_succ_self _)
 refine⟨by rw[Xbv ne,Xay],zero_le _,ne,e2,λ_=>none,(Heap.Ns1.of_empty e3).at λo q=>get?_push_of_some _ q,λ_=>True.intro,λy hy=>absurd rfl hy⟩
theorem Yg0 {prog:Program}{w:World}{env:Env}{e:Expr}{f:Str}{pos:Pos}{s:Shared}{Q:Value->Shared->Prop}(hb:attributeBase e f env (eval e env)=eval e env)
  (h:wpAny (model prog w) A (eval e env) (λo s₁=>wpAny (model prog w) A (getAttr o f true) Q E s₁) E s):wpAny (model prog w) A (eval (.Attribute e f pos) env) Q E s:=
 Attribute_any_ h (by rw[arm_eval_Attribute,hb])
end
def Yht (K:Frag)(ta:TE)(f:Str):TE:=λY H Q=>ta Y H λx H1=>∃a C dx fs v,x = .ref a/\H1 a=some (.ins C dx fs)/\Cls K C/\Xkl K C f/\fs.lookup f=some v/\Q v H1
def Yk8 (K:Frag)(ta tv:TE)(f:Str):TS:=λD Y H=>tv Y H λy H1=>ta Y H1 λx H2=>∃a C dx fs,x = .ref a/\H2 a=some (.ins C dx fs)/\Cls K C/\Xkl K C f/\fs.length<1000/\
 D.nx Y (upd H2 a (.ins C dx (Xmv f y fs)))
def Yl7 (X:Cx)(op:Operator)(rd:V->V->Hp->VK->Prop):Prop:=
 ∀(pins:List (Addr×Obj)) (s:Shared) (Y:St) (H:Hp) (x y:V) (u v:Value) (Q:VK),Inv X pins Y H s->Xeb x u->Xeb y v->rd x y H Q->wpAny (model X.prog X.w) X.A (inplaceOp op u v) (EP X pins Y Q) X.xe s
def Xxm (K:Frag)(ta tv:TE)(rd:V->V->Hp->VK->Prop)(f:Str):TS:=λD Y H=>ta Y H λx H1=>∃a C dx fs v,x = .ref a/\H1 a=some (.ins C dx fs)/\Cls K C/\Xkl K C f/\fs.lookup f=some v/\
 tv Y H1 λy H2=>rd v y H2 λz H3=>∃dx' fs',H3 a=some (.ins C dx' fs')/\fs'.length<1000/\D.nx Y (upd H3 a (.ins C dx' (Xmv f z fs')))
section
variable {X:Cx}{o e value:Expr}{f:Str}{pos pos' tpos:Pos}{ta tv:TE}
theorem Xd3 (he:PE X e ta)(hb:attributeBase e f X.env (eval e X.env)=eval e X.env):PE X (.Attribute e f pos) (Yht X.K ta f):=by
 intro pins s Y H Q I h
 refine Yg0 hb (thn (he pins s Y H _ I h) λu s1 ⟨x,H1,I1,rx,a,C,dx,fs,v,ex,ea,c,n,l,q⟩=>?_)
 subst ex
 obtain rfl:u=Value.ref a:=rx
 exact Xox I1 ea c n l λu' s2 I2 ru=>⟨v,H1,I2,ru,q⟩
theorem Xmw (ha:PE X o ta)(hv:PE X value tv)(hs:swapsWith value (some (.Attribute o f pos')) pos.line X.env=pure false):PS X (.Assign [.Attribute o f pos'] value pos) (Yk8 X.K ta tv f):=by
 intro pins s Y H D I h
 refine plainObj_wpAny_Assign_Attribute (thn (hv pins s Y H _ I h) λu s1 ⟨y,H1,I1,ry,q⟩=>thn (ha pins s1 Y H1 _ I1 q) λov s2 ⟨x,H2,I2,rx,a,C,dx,fs,ex,ea,c,n,l,q2⟩=>?_) hs
 subst ex
 obtain rfl:ov=Value.ref a:=rx
 exact Xom I2 ea c n l ry λs3 I3=>⟨Y,_,I3,q2⟩
theorem Xq9 {op:Operator}{rd:V->V->Hp->VK->Prop}(ha:PE X o ta)(hv:PE X value tv)(hop:Yl7 X op rd):PS X (.AugAssign (.Attribute o f tpos) op value pos) (Xxm X.K ta tv rd f):=by
 intro pins s Y H D I h
 refine wpAny_AugAssign_AttributeAny (thn (ha pins s Y H _ I h) λov s1 ⟨x,H1,I1,rx,a,C,dx,fs,v,ex,ea,c,n,l,q⟩=>?_)
 subst ex
 obtain rfl:ov=Value.ref a:=rx
 refine Xox I1 ea c n l λu s2 I2 ru=>thn (hv pins s2 Y H1 _ I2 q) λw3 s3 ⟨y,H2,I3,ry,q3⟩=>thn (hop pins s3 Y H2 v y u w3 _ I3 ru ry q3) λw4 s4 ⟨z,H3,I4,rz,dx',fs',ea',l',q4⟩=>?_
 exact Xom I4 ea' c n l' rz λs5 I5=>⟨Y,_,I5,q4⟩
def Ynl:V->V->Hp->VK->Prop:=λx y H Q=>∃i j,x = .int i/\y = .int j/\Q (.int (i+j)) H
def Yni:V->V->Hp->VK->Prop:=λx y H Q=>∃i j,x = .int i/\y = .int j/\Q (.int (i-j)) H
theorem Yjm:Yl7 X .Add Ynl:=by
 rintro pins s Y H x y u v Q I rx ry ⟨i,j,rfl,rfl,q⟩
 obtain⟨t,rfl⟩:=(show ∃t,u=Value.int i t from rx)
 obtain⟨t',rfl⟩:=(show ∃t',v=Value.int j t' from ry)
 exact PyProof.Rows.iadd_int ⟨.int (i+j),H,I.tok _,⟨_,rfl⟩,q⟩
theorem Yjl:Yl7 X .Sub Yni:=by
 rintro pins s Y H x y u v Q I rx ry ⟨i,j,rfl,rfl,q⟩
 obtain⟨t,rfl⟩:=(show ∃t,u=Value.int i t from rx)
 obtain⟨t',rfl⟩:=(show ∃t',v=Value.int j t' from ry)
 exact PyProof.Rows.isub_int ⟨.int (i-j),H,I.tok _,⟨_,rfl⟩,q⟩
end
section
variable {X:Cx}{pins:List (Addr×Obj)}{Y:St}{H:Hp}{s:Shared}{A:Around}{E:Value->Shared->Prop}{Q:Value->Shared->Prop}{c:Value}{b:Bool}
inductive TyOf (K:Frag) (H:Hp):V->Value->Prop where
 |non:TyOf K H .non (.type "NoneType")
 |bl (x:Bool):TyOf K H (.bl x) (.type "bool")
 |int (i:Int):TyOf K H (.int i) (.type "int")
 |str (x:Str):TyOf K H (.str x) (.type "str")
 |flt (x:UInt64):TyOf K H (.flt x) (.type "float")
 |lst {a:Addr} {xs:List V} (e:H a=some (.lst xs)):TyOf K H (.ref a) (.type "list")
 |frz {a:Addr} {o:Obj} {xs:List V} (e:H a=some (.frz o (.lst xs))):TyOf K H (.ref a) (.type "list")
 |tup {a:Addr} {xs:List V} (e:H a=some (.tup xs)):TyOf K H (.ref a) (.type "tuple")
 |dK {a:Addr} {kvs:List (Key×V)} (e:H a=some (.dK kvs)):TyOf K H (.ref a) (.type "dict")
 |dT {a:Addr} {kvs:List (List Key×V)} (e:H a=some (.dT kvs)):TyOf K H (.ref a) (.type "dict")
 |ins {a C dx:Addr} {fs:List (Str×V)} (e:H a=some (.ins C dx fs)) (cl:Cls K C) (ha:PySem.W.findIn K (.ref C) "__class__"=some (some (.builtin "object.__class__")))
   (hn:PySem.W.specialIn K (.builtin "object.__class__") "__get__"=some (some (.builtin "getset_descriptor.__get__"))) (htk:PySem.W.takesIn K (.builtin "object.__class__")=some true)
   (hm:PySem.W.mroIn K C (.type "object")=some true):TyOf K H (.ref a) (.ref C)
theorem Xkg {x:V}{u t:Value}(I:Inv X pins Y H s)(rx:Xeb x u)(ty:TyOf X.K H x t)(e:kitOne X.K t c=some b)(h:∀tk,Q (.bool b) {s with toks:=tk}):
  wpAny (model X.prog X.w) A (call (.builtin "isinstance") [u,c]) Q E s:=by
 cases ty with
 |non=>cases (show u=Value.none from rx);exact kia_one PySem.W.kitx_none I.kIn True.intro e (λz=>nomatch z) h
 |bl y=>cases (show u=Value.bool y from rx);exact kia_one PySem.W.kitx_bool I.kIn True.intro e (λz=>nomatch z) h
 |int i=>obtain⟨t,q⟩:=(show ∃t,u=Value.int i t from rx);cases q;exact kia_one PySem.W.kitx_int I.kIn True.intro e (λz=>nomatch z) h
 |str y=>obtain⟨t,q⟩:=(show ∃t,u=Value.str y t from rx);cases q;exact kia_one PySem.W.kitx_str I.kIn True.intro e (λz=>nomatch z) h
 |flt y=>obtain⟨t,q⟩:=(show ∃t,u=Value.float y t from rx);cases q;exact kia_one PySem.W.kitx_float I.kIn True.intro e (λz=>nomatch z) h
 | @lst a xs ea=>
  cases (show u=Value.ref a from rx)
  obtain⟨_,_,n,_,h1⟩:=(show Xf2 X.prog X.w H s.heap a (.lst xs) from I.hok a _ ea)
  exact kia_one kitx_list I.kIn ⟨_,h1,rfl⟩ e (λz=>nomatch z) h
 | @frz a ob xs ea=>
  cases (show u=Value.ref a from rx)
  obtain⟨_,_,_,n,_,h1⟩:=(show Xf2 X.prog X.w H s.heap a (.frz ob (.lst xs)) from I.hok a _ ea)
  exact kia_one kitx_list I.kIn ⟨_,h1,rfl⟩ e (λz=>nomatch z) h
 | @tup a xs ea=>
  cases (show u=Value.ref a from rx)
  obtain⟨_,_,_,p⟩:=(show Xf2 X.prog X.w H s.heap a (.tup xs) from I.hok a _ ea)
  obtain⟨o,h1,h2,_⟩:=p
  exact kia_one kitx_tuple I.kIn ⟨o,h1,h2⟩ e (λz=>nomatch z) h
 | @dK a kvs ea=>
  cases (show u=Value.ref a from rx)
  obtain⟨_,_,vs,_,p⟩:=(show Xf2 X.prog X.w H s.heap a (.dK kvs) from I.hok a _ ea)
  obtain⟨o,es,ep,h1,h2,_⟩:=p
  exact kia_one kitx_dict I.kIn ⟨o,h1,h2.1⟩ e (λz=>nomatch z) h
 | @dT a kvs ea=>
  cases (show u=Value.ref a from rx)
  obtain⟨_,_,xs,_,o,es,ep,h1,h2,_⟩:=(show Xf2 X.prog X.w H s.heap a (.dT kvs) from I.hok a _ ea)
  exact kia_one kitx_dict I.kIn ⟨o,h1,h2.1⟩ e (λz=>nomatch z) h
 | @ins a C dx fs ea cl ha hn htk hm=>
  cases (show u=Value.ref a from rx)
  obtain⟨mA,O,_⟩:=Xpt I.hok ea
  obtain⟨od,J,_⟩:=O.look
  exact kia_one (PySem.W.kitx_own (cl.get _) cl.hd ha hn htk hm) I.kIn J e (λz=>nomatch z) h
end
structure Room (k:Nat) (A:Around):Prop where
 hd:A.handled=none
 dp:A.depth+3*k+5<recursionLimit
 un:A.units+16*k+200<cLine
theorem Room.mono {j k:Nat}{A:Around}(r:Room k A)(h:j<=k):Room j A:=⟨r.hd,by have:=r.dp;omega,by have:=r.un;omega⟩
theorem Room.deeper {k:Nat}{A:Around}(r:Room (k+1) A)(env:Env):Room k (A.deeper env):=
 ⟨r.hd,by have:=r.dp;show A.depth+1+3*k+5<_;omega,by have:=r.un;show A.units+3+16*k+200<_;omega⟩
theorem Xvy {A:Around}{C:Addr}{us:List Value}{kw:List (Str×Value)}:(A.under (.builtin "type.__call__" ⟨.ref C::us,kw⟩)).depth=A.depth+1:=by
 first |rfl |simp[Around.under,Code.weight,Code.isCreation,Code.isGuard,Code.isCaller,Code.frames,Code.isFrame,guardIds]
theorem Xvx {A:Around}{C:Addr}{us:List Value}{kw:List (Str×Value)}:(A.under (.builtin "type.__call__" ⟨.ref C::us,kw⟩)).units=A.units+1:=by
 first |rfl |simp[Around.under,Code.cUnits,Code.frames,Code.isFrame]
theorem Room.make {k:Nat}{A:Around}(r:Room (k+1) A)(C:Addr)(us:List Value)(kw:List (Str×Value)):Room k (A.under (.builtin "type.__call__" ⟨.ref C::us,kw⟩)):=
 ⟨r.hd,by have:=r.dp;rw[Xvy];omega,by have:=r.un;rw[Xvx];omega⟩
theorem Room.depth {k:Nat}{A:Around}(r:Room k A):A.depth<recursionLimit:=by have:=r.dp;omega
theorem Room.units {k:Nat}{A:Around}(r:Room k A):A.units+64<cLine:=by have:=r.un;omega
def Xqc:TA:=λ_ H Q=>Q [] H
def Xiz (ta:TE)(tr:TA):TA:=λY H Q=>ta Y H λx H1=>tr Y H1 λxs H2=>Q (x::xs) H2
section
variable {X:Cx}{e:Expr}{es:List Expr}{te:TE}{t:TA}{pos:Pos}
theorem Xad:PA X [] Xqc:=λ_ _ _ _ H Q I h=>Calls.spliced_nil ⟨[],H,I,.nil,h⟩
theorem Xaa (ha:PE X e te)(hr:PA X es t)(hs:starEach (e::es) X.env=(false,eval e X.env)::starEach es X.env:=by rfl):PA X (e::es) (Xiz te t):=by
 intro pos pins s Y H Q I h
 rw[hs]
 show wpAny _ _ (spliced ((false,eval e X.env)::backTo pos (starEach es X.env))) _ _ s
 refine Calls.spliced_cons (thn (ha pins s Y H _ I h) λu s1 ⟨x,H1,I1,r1,q1⟩=>?_)
 exact thn (hr pos pins s1 Y H1 _ I1 q1) λus s2 ⟨xs,H2,I2,r2,q2⟩=>⟨x::xs,H2,I2,.cons r1 r2,q2⟩
end
abbrev Sp:=List V->Hp->VK->XK->Prop
abbrev CXT:=List Env->Hp->Shared->XK->Value->Shared->Prop
structure Env0 (P:Program) (w:World) (K:Frag) (mg:Str->Option Value) (base:Heap) (A:Around) (outer:List Env) (s:Shared) (H:Hp):Prop where
 frames:A.frames=some outer
 mod:Mod K mg base
 bs:∀b o,base.get? b=some o->s.heap.get? b=some o/\H b=none
 bsz:base.objs.size<=s.heap.objs.size
 funs:s.heap.FunFrames base outer
 frf:∀b∈frs outer,H b=none
 hok:HOk P w H s.heap
 bare:AllBare s.gens
def CE (outer:List Env)(P:Program)(w:World)(H:Hp)(s:Shared)(Q:VK)(u:Value)(s':Shared):Prop:=
 ∃v H',s'.os=s.os/\AllBare s'.gens/\Un (frs outer) [] H H' s.heap s'.heap/\HOk P w H' s'.heap/\Xeb v u/\Q v H'
def CR (CX:CXT)(outer:List Env)(P:Program)(w:World)(H:Hp)(s:Shared)(Q:VK)(E:XK)(r:Result)(s':Shared):Prop:=
 match r with
 | .ok (.ret u)=>CE outer P w H s Q u s'
 | .ok _=>False
 | .error e=>CX outer H s E e s'
structure FnOk (P:Program) (w:World) (K:Frag) (mg:Str->Option Value) (base:Heap) (CX:CXT) (k:Nat) (f:Addr) (fd:FuncData) (ps:List Str) (sp:Sp):Prop where
 len:∀vs H Q E,sp vs H Q E->vs.length=ps.length
 run:∀(A:Around) (outer:List Env) (s:Shared) (H:Hp) (args:Args) (us:List Value) (vs:List V) (Q:VK) (E:XK),Room k A->Env0 P w K mg base A outer s H->BindsTo s fd args (ps.zip us)->Xb5 vs us->sp vs H Q E->
  codeAny (model P w) A (.call (.ref f) args) (CR CX outer P w H s Q E) s
theorem FnOk.mono {P:Program}{w:World}{K:Frag}{mg:Str->Option Value}{base:Heap}{CX:CXT}{j k:Nat}{f:Addr}{fd:FuncData}{ps:List Str}{sp:Sp}(F:FnOk P w K mg base CX j f fd ps sp)(h:j<=k):
  FnOk P w K mg base CX k f fd ps sp:=⟨F.len,λA outer s H args us vs Q E hr=>F.run A outer s H args us vs Q E (hr.mono h)⟩
theorem Env0.make {P:Program}{w:World}{K:Frag}{mg:Str->Option Value}{base:Heap}{A:Around}{outer:List Env}{s:Shared}{H:Hp}(e:Env0 P w K mg base A outer s H)(C:Addr)(us:List Value)(kw:List (Str×Value)):
  Env0 P w K mg base (A.under (.builtin "type.__call__" ⟨.ref C::us,kw⟩)) outer s H:=⟨by first |exact e.frames | (simpa[Around.under,Code.envs,Code.isFrame,pushEnvs] using e.frames),e.mod,e.bs,e.bsz,e.funs,e.frf,e.hok,e.bare⟩
section
variable {X:Cx}{pins:List (Addr×Obj)}{Y:St}{H:Hp}{s s':Shared}
theorem Inv.env0 (I:Inv X pins Y H s):Env0 X.prog X.w X.K X.mg X.base X.A X.stack s H:=
 ⟨I.ok.frames,I.ok.mod,I.bs,le_trans I.ok.bsz I.sz,I.stack,I.stkFree,I.hok,I.bare⟩
theorem Inv.after {Q:VK}{u:Value}(I:Inv X pins Y H s)(h:CE X.stack X.prog X.w H s Q u s'):EP X pins Y Q u s':=by
 obtain⟨v,H',os,bare,un,hok,r,q⟩:=h
 obtain⟨hh,g,d,t,os'⟩:=s'
 obtain rfl:os'=s.os:=os
 exact⟨v,H',I.call (h':=hh) (g':=g) (d':=d) (t':=t) (ch:=[]) un hok bare (λb z=>absurd z (by simp)),r,q⟩
end
def Xww (sp:Sp)(dvs:List V)(E:XK)(t:TA):TE:=λY H Q=>t Y H λvs H1=>sp (vs++dvs) H1 Q E
def Yd7 (C:Addr)(m:Str)(sp:Sp)(dvs:List V)(E:XK)(ta:TE)(t:TA):TE:=λY H Q=>ta Y H λx H1=>∃a dx fs,x = .ref a/\H1 a=some (.ins C dx fs)/\fs.lookup m=none/\
 t Y H1 λvs H2=>sp (x::(vs++dvs)) H2 Q E
def Yhr (C:Addr)(sp:Sp)(dvs:List V)(E:XK)(t:TA):TE:=λY H Q=>t Y H λvs H1=>∀x dx,H1 x=none->H1 dx=none->dx≠x->
 sp (.ref x::(vs++dvs)) (upd (upd H1 dx (.own x)) x (.ins C dx [])) (λv H2=>v = .non/\Q (.ref x) H2) E
def Xjv (K:Frag)(fd:FuncData)(ps:List Str)(ds:List Value):Prop:=
 ∀(s:Shared) (us:List Value),K.In s.heap->(us++ds).length=ps.length->BindsTo s fd ⟨us,[]⟩ (ps.zip (us++ds))
theorem Xjv.all {K:Frag}{fd:FuncData}{ps:List Str}(h:∀us:List Value,us.length=ps.length->bindArgs fd ⟨us,[]⟩=pure (ps.zip us)):Xjv K fd ps []:=λs us _ hl=>by
 rw[append_nil]at hl ⊢
 exact .of_eq (h us hl)
def Xnp (CX:CXT)(X:Cx)(E:XK):Prop:=∀(pins:List (Addr×Obj)) (Y:St) (H:Hp) (s:Shared) (e:Value) (s':Shared),Inv X pins Y H s->CX X.stack H s E e s'->X.xe e s'
section
variable {X:Cx}{CX:CXT}{k:Nat}{f C:Addr}{fd:FuncData}{ps:List Str}{sp:Sp}{dvs:List V}{ds:List Value}{E:XK}{x m:Str}{p pos apos:Pos}{e o:Expr}{es:List Expr}{ta:TE}{t:TA}
theorem Xt7 {pins:List (Addr×Obj)}{Y:St}{H:Hp}{s:Shared}{Q:VK}{us:List Value}{vs:List V}(F:FnOk X.prog X.w X.K X.mg X.base CX k f fd ps sp)(hr:Room k X.A)(hb:Xjv X.K fd ps ds)(hd:Xb5 dvs ds)(hx:Xnp CX X E)
  (I:Inv X pins Y H s) (r:Xb5 vs us) (h:sp (vs++dvs) H Q E):wpAny (model X.prog X.w) X.A (call (.ref f) us) (EP X pins Y Q) X.xe s:=by
 have r2:Xb5 (vs++dvs) (us++ds):=r.append hd
 have hl:(us++ds).length=ps.length:=by rw[<- r2.length];exact F.len _ _ _ _ h
 refine wpAny_call (codeAny_mono (F.run X.A X.stack s H ⟨us,[]⟩ (us++ds) (vs++dvs) Q E hr I.env0 (hb s us I.kIn hl) r2 h) λr s' hq=>?_)
 cases r with
 |error e=>exact hx pins Y H s e s' I hq
 |ok fl=>
  cases fl with
  |ret u=>exact I.after hq
  |next=>exact False.elim hq
  |brk=>exact False.elim hq
  |cont=>exact False.elim hq
theorem Yfn (F:FnOk X.prog X.w X.K X.mg X.base CX k f fd ps sp)(hr:Room k X.A)(hg:Gl X x)(hm:X.mg x=some (.ref f))(hk:keepIn X.K (.ref f)=true)(hb:Xjv X.K fd ps ds)(hd:Xb5 dvs ds)(hx:Xnp CX X E)
  (ha:PA X (e::es) t) (hdb:(x==("__debug__":Str))=false:=by decide) (he:starEach (e::es) X.env=(false,eval e X.env)::starEach es X.env:=by rfl) (hpl:(backTo pos (starEach es X.env)).any (·.1)=false:=by rfl):
  PE X (.Call (.Name x p) (e::es) [] pos) (Xww sp dvs E t):=by
 intro pins s Y H Q I h
 refine wpAny_Call_Name_kw (Xky I hg hm ?_ hdb)
 refine callWith_K (h₀:=X.base) I.ok.mod.kin hk (thn (ha pos pins s Y H _ I h) λus s1 ⟨vs,H1,I1,r,q⟩=>⟨I1.kIn,?_⟩) he hpl
 exact Xt7 F hr hb hd hx I1 r q
theorem Yfk {pl:Sem Bool}(he:PE X o ta)(c:Cls X.K C)(hm:Meth X.K C m f)(F:FnOk X.prog X.w X.K X.mg X.base CX k f fd ps sp)(hr:Room k X.A)(hb:Xjv X.K fd ps ds)(hd:Xb5 dvs ds)(hx:Xnp CX X E)(ha:PA X (e::es) t)
  (hst:starEach (e::es) X.env=(false,eval e X.env)::starEach es X.env:=by rfl) (hpl:(backTo pos (starEach es X.env)).any (·.1)=false:=by rfl)
  (ht:eval (.Call (.Attribute o m apos) (e::es) [] pos) X.env=(do
   let ov <- eval o X.env
   standAt apos.atName
   let (f,first) <- holding [ov] (getMethod ov m pl)
   callWith pos f first (backTo pos (starEach (e::es) X.env)) (backToKw pos (keywordEach [] X.env))):=by rfl):
  PE X (.Call (.Attribute o m apos) (e::es) [] pos) (Yd7 C m sp dvs E ta t):=by
 intro pins s Y H Q I h
 refine PySem.W.methodCall_KW (pl:=pl) (thn (he pins s Y H _ I h) λu s1 ⟨x,H1,I1,rx,a,dx,fs,ex,ea,l,q⟩=>?_) ht
 subst ex
 obtain rfl:u=Value.ref a:=rx
 refine Xow I1 ea c hm l ?_
 refine callWith_K (first:=[.ref a]) (h₀:=X.base) I.ok.mod.kin hm.kp (thn (ha pos pins s1 Y H1 _ I1 q) λus s2 ⟨vs,H2,I2,r,q2⟩=>⟨I2.kIn,?_⟩) hst hpl
 exact Xt7 (us:=.ref a::us) (vs:=.ref a::vs) F hr hb hd hx I2 (.cons rfl r) q2
theorem Ya7 {pl:Sem Bool}(he:PE X o ta)(c:Cls X.K C)(hm:Meth X.K C m f)(F:FnOk X.prog X.w X.K X.mg X.base CX k f fd ps sp)(hr:Room k X.A)(hb:Xjv X.K fd ps ds)(hd:Xb5 dvs ds)(hx:Xnp CX X E)
  (ht:eval (.Call (.Attribute o m apos) [] [] pos) X.env=(do
   let ov <- eval o X.env
   standAt apos.atName
   let (f,first) <- holding [ov] (getMethod ov m pl)
   callWith pos f first (backTo pos (starEach [] X.env)) (backToKw pos (keywordEach [] X.env))):=by rfl):
  PE X (.Call (.Attribute o m apos) [] [] pos) (Yd7 C m sp dvs E ta Xqc):=by
 intro pins s Y H Q I h
 refine PySem.W.methodCall_KW (pl:=pl) (thn (he pins s Y H _ I h) λu s1 ⟨x,H1,I1,rx,a,dx,fs,ex,ea,l,q⟩=>?_) ht
 subst ex
 obtain rfl:u=Value.ref a:=rx
 refine Xow I1 ea c hm l ?_
 exact PySem.W.callWith_K0 (first:=[.ref a]) I1.kIn hm.kp (Xt7 (us:=[.ref a]) (vs:=[.ref a]) F hr hb hd hx I1 (.cons rfl .nil) q)
structure Mk (K:Frag) (C f:Addr):Prop where
 makes:makesIn K C=true
 init:PySem.W.findIn K (.ref C) "__init__"=some (some (.ref f))
 fn:isFn K (.ref f)=true
 kp:keepIn K (.ref C)=true
theorem Yay {pins:List (Addr×Obj)}{Y:St}{H:Hp}{s:Shared}{Q:VK}{us:List Value}{vs:List V}(M:Mk X.K C f)(F:FnOk X.prog X.w X.K X.mg X.base CX k f fd ps sp)(hr:Room (k+1) X.A)(hb:Xjv X.K fd ps ds)(hd:Xb5 dvs ds)
  (hx:Xnp CX X E) (I:Inv X pins Y H s) (r:Xb5 vs us)
  (h:∀x dx,H x=none->H dx=none->dx≠x->sp (.ref x::(vs++dvs)) (upd (upd H dx (.own x)) x (.ins C dx [])) (λv H2=>v = .non/\Q (.ref x) H2) E):
  wpAny (model X.prog X.w) X.A (call (.ref C) us) (EP X pins Y Q) X.xe s:=by
 have hq:=h (s.heap.objs.size+1) s.heap.objs.size (I.hok.fresh (le_succ _)) (I.hok.fresh (Nat.le_refl _)) (ne_of_lt (Nat.lt_succ_self _))
 have I2:=Inv.made (C:=C) I
 have r2:Xb5 (V.ref (s.heap.objs.size+1)::(vs++dvs)) (Value.ref (s.heap.objs.size+1)::(us++ds)):=.cons rfl (r.append hd)
 have hl:(Value.ref (s.heap.objs.size+1)::us++ds).length=ps.length:=by
  have e:=r2.length
  rw[F.len _ _ _ _ hq]at e
  exact e.symm
 refine wpAny_call (Ybn (f:=f) I.kIn M.makes M.init (beq_iff_eq.mp M.fn) (codeAny_mono (F.run _ X.stack _ _ ⟨Value.ref (s.heap.objs.size+1)::us,[]⟩ (Value.ref (s.heap.objs.size+1)::(us++ds)) _ _ E (hr.make C us [])
  (I2.env0.make C us []) (hb _ (Value.ref (s.heap.objs.size+1)::us) I2.kIn hl) r2 hq) λr s' hq'=>?_))
 cases r with
 |error e=>exact hx pins Y _ _ e s' I2 hq'
 |ok fl=>
  cases fl with
  |ret u=>
   obtain⟨v,H',I3,rv,ev,q3⟩:=I2.after hq'
   subst ev
   exact⟨rv,⟨V.ref (s.heap.objs.size+1),H',I3,rfl,q3⟩⟩
  |next=>exact False.elim hq'
  |brk=>exact False.elim hq'
  |cont=>exact False.elim hq'
theorem Yfl (M:Mk X.K C f)(F:FnOk X.prog X.w X.K X.mg X.base CX k f fd ps sp)(hr:Room (k+1) X.A)(hg:Gl X x)(hm:X.mg x=some (.ref C))(hb:Xjv X.K fd ps ds)(hd:Xb5 dvs ds)(hx:Xnp CX X E)
  (ha:PA X (e::es) t) (hdb:(x==("__debug__":Str))=false:=by decide) (he:starEach (e::es) X.env=(false,eval e X.env)::starEach es X.env:=by rfl) (hpl:(backTo pos (starEach es X.env)).any (·.1)=false:=by rfl):
  PE X (.Call (.Name x p) (e::es) [] pos) (Yhr C sp dvs E t):=by
 intro pins s Y H Q I h
 refine wpAny_Call_Name_kw (Xky I hg hm ?_ hdb)
 refine callWith_K (h₀:=X.base) I.ok.mod.kin M.kp (thn (ha pos pins s Y H _ I h) λus s1 ⟨vs,H1,I1,r,q⟩=>⟨I1.kIn,?_⟩) he hpl
 exact Yay M F hr hb hd hx I1 r q
end
section
variable {X:Cx}{CX:CXT}{k:Nat}{f C:Addr}{fd:FuncData}{ps ks:List Str}{sp:Sp}{E:XK}{x m:Str}{p pos apos kpos:Pos}{e o:Expr}{es:List Expr}{kws:List Keyword}{te ta:TE}{t tk:TA}{nm:Option Str}
variable {g:List Value->List Value->List Value}{gV:List V->List V->List V}
end
structure FnScope (N P:List Str) (sc:Scope):Prop where
 kind:sc.kind = .function
 co:sc.isCoroutine=false
 gen:sc.isGenerator=false
 nd:N.Nodup
 pre:N.take P.length=P
 par:∀x∈P,sc.names.lookup x=some .local∨sc.names.lookup x=some .cell
 nofree:∀y∈sc.names,y.2≠.free
theorem Xsi {kindOf:Str->Option NameKind}{x:Str}:∀{binds:List (Str×Value)} {m:Str->Option Value},(∀v,(x,v)∉binds)->bindL kindOf binds m x=m x
 | [],_,_=>rfl
 | (n,v)::r,m,h=>by
  unfold bindL
  rw[Xsi λw hw=>h w (mem_cons_of_mem _ hw)]
  split
  .have:x≠n:=by rintro rfl;exact h v mem_cons_self
   simp[this]
  .rfl
theorem Xsk {kindOf:Str->Option NameKind}{x:Str}:∀{binds:List (Str×Value)} {m:Str->Option Value},(∀v,(x,v)∉binds)->bindC kindOf binds m x=m x
 | [],_,_=>rfl
 | (n,v)::r,m,h=>by
  unfold bindC
  rw[Xsk λw hw=>h w (mem_cons_of_mem _ hw)]
  split
  .rfl
  .have:x≠n:=by rintro rfl;exact h v mem_cons_self
   simp[this]
theorem Xsj {kindOf:Str->Option NameKind}{x:Str}{v:Value}:∀{P:List Str} {vs:List Value} {i:Nat} {m:Str->Option Value},P.Nodup->P[i]?=some x->vs[i]?=some v->kindOf x=some .local->
  bindL kindOf (P.zip vs) m x=some v
 | [],_,_,_,_,h,_,_=>by simp at h
 |_::_,[],_,_,_,_,h,_=>by simp at h
 |p::P,w::vs,0,m,nd,h1,h2,hk=>by
  simp at h1 h2;subst h1;subst h2
  show bindL kindOf ((p,w)::P.zip vs) m p=_
  unfold bindL
  rw[Xsi λv hv=>(nodup_cons.mp nd).1 (of_mem_zip hv).1,if_pos hk]
  simp
 |p::P,w::vs,i+1,m,nd,h1,h2,hk=>by
  show bindL kindOf ((p,w)::P.zip vs) m x=_
  unfold bindL
  exact Xsj (i:=i) (nodup_cons.mp nd).2 (by simpa using h1) (by simpa using h2) hk
theorem Xsl {kindOf:Str->Option NameKind}{x:Str}{v:Value}:∀{P:List Str} {vs:List Value} {i:Nat} {m:Str->Option Value},P.Nodup->P[i]?=some x->vs[i]?=some v->kindOf x≠some .local->
  bindC kindOf (P.zip vs) m x=some v
 | [],_,_,_,_,h,_,_=>by simp at h
 |_::_,[],_,_,_,_,h,_=>by simp at h
 |p::P,w::vs,0,m,nd,h1,h2,hk=>by
  simp at h1 h2;subst h1;subst h2
  show bindC kindOf ((p,w)::P.zip vs) m p=_
  unfold bindC
  rw[Xsk λv hv=>(nodup_cons.mp nd).1 (of_mem_zip hv).1,if_neg hk]
  simp
 |p::P,w::vs,i+1,m,nd,h1,h2,hk=>by
  show bindC kindOf ((p,w)::P.zip vs) m x=_
  unfold bindC
  exact Xsl (i:=i) (nodup_cons.mp nd).2 (by simpa using h1) (by simpa using h2) hk
def Xe4 (N:List Str)(vs:List V):St:=vs.map some++List.replicate (N.length-vs.length) none
def Xn6 (CX:CXT)(P:Program)(w:World)(K:Frag)(mg:Str->Option Value)(base:Heap)(N:List Str)(qual:Str)(scope:Scope)(f:Addr)(cd:Value)(A:Around)(outer:List Env)(s:Shared)(H:Hp)(E:XK):Cx where
 prog:=P
 w:=w
 K:=K
 mg:=mg
 base:=base
 A:=A.deeper (envOfC qual scope s.heap.objs.size f cd)
 N:=N
 s₀:=s
 H₀:=H
 env:=envOfC qual scope s.heap.objs.size f cd
 outer:=outer
 stack:=envOfC qual scope s.heap.objs.size f cd::outer
 ex:=[]
 calm:=true
 fn:=λ_=>true
 pn:=[]
 xe:=λe s'=>wpAny (model P w) (A.deeper (envOfC qual scope s.heap.objs.size f cd)) (leaving (envOfC qual scope s.heap.objs.size f cd) e) (λ_ s''=>CX outer H s E e s'') (λe' s''=>CX outer H s E e' s'') s'
theorem Xux {sc:Scope}{n:Nat}{x:Str}(h:sc.names.lookup x=some .cell):∃c,(cellsFrom n sc.names []).lookup x=some c:=by
 have q:=PySem.W.cellsFrom_some sc.names n [] (.inl h)
 exact Option.isSome_iff_exists.mp q
theorem Xy0 {CX:CXT}{P:Program}{w:World}{K:Frag}{mg:Str->Option Value}{base:Heap}{N ps:List Str}{qual:Str}{scope:Scope}{f:Addr}{cd:Value}{A:Around}{outer:List Env}{s s1:Shared}{H:Hp}{E:XK}{us:List Value}{vs:List V}
  (S:FnScope N ps scope) (hd:A.handled=none) (e0:Env0 P w K mg base A outer s H) (hl:vs.length=ps.length) (r:Xb5 vs us)
  (x:InCallC s s.heap.objs.size (bindL (envOfC qual scope s.heap.objs.size f cd).kindOf (ps.zip us) λ_=>none) (cellsFrom (s.heap.objs.size+1) scope.names []) (bindC (envOfC qual scope s.heap.objs.size f cd).kindOf (ps.zip us) λ_=>none) s1):
  Inv (Xn6 CX P w K mg base N qual scope f cd A outer s H E) [] (Xe4 N vs) H s1:=by
 have hpl:ps.length<=N.length:=by have:=congrArg List.length S.pre;rw[length_take]at this;omega
 obtain⟨h1,tk,rfl,hk⟩:=x.done
 have noA:∀b:Addr,b∉(Xn6 CX P w K mg base N qual scope f cd A outer s H E).ex:=λb z=>absurd (show b∈([]:List Addr) from z) (by simp)
 refine⟨⟨e0.mod,S.kind,rfl,rfl,Nat.le_refl _,λy z c h1 h2=>?_,λy hy=>?_,λy c _ h=>?_,λ_=>hd,Around.frames_deeper e0.frames,.inr ⟨rfl,rfl⟩,λb z=>absurd z (noA b),e0.bs,e0.bsz,λb _ _=>noA b,λb z=>absurd z (noA b),e0.funs,e0.frf⟩,
  rfl,e0.bare,Un.kept hk,⟨_,x.toInCall.ns,λi y v h1 h2 h3=>?_⟩,λy c h=>⟨_,x.cell y c h⟩,e0.hok.fresh (Nat.le_refl _),λy c h=>?_,λp hp=>absurd (show p∈([]:List (Addr×Obj)) from hp) (by simp),e0.hok.kept hk,?_⟩
 .exact name_of_addr x.apart (PySem.mem_of_lookup h1) (PySem.mem_of_lookup h2)
 .have hy:scope.names.lookup y=some .cell∨scope.names.lookup y=some .free:=hy
  rcases hy with hy |hy
  .exact Xux hy
  .exact absurd rfl (S.nofree _ (PySem.mem_of_lookup hy))
 .exact le_of_lt (x.above y c (PySem.mem_of_lookup h))
 .have hi:i<vs.length:=by
   unfold Xe4 at h2
   by_cases hi:i<vs.length
   .exact hi
   .rw [getElem?_append_right (by simpa using hi)]at h2
    rw[List.getElem?_replicate]at h2
    split at h2<;>cases h2
  have ha:vs[i]?=some v:=by
   unfold Xe4 at h2
   rw[getElem?_append_left (by simpa using hi),getElem?_map]at h2
   cases e:vs[i]? with
   |none=>rw[e]at h2;cases h2
   |some a=>rw[e]at h2;cases h2;rfl
  obtain⟨u,hu,rv⟩:=r.get ha
  have hp:ps[i]?=some y:=by
   rw[<- S.pre,List.getElem?_take_of_lt (by omega)];exact h1
  have ndP:ps.Nodup:=by rw[<- S.pre];exact S.nd.sublist (List.take_sublist _ _)
  refine⟨u,rv,?_⟩
  rcases S.par y (mem_of_getElem? hp) with k |k
  .exact .inl ⟨k,Xsj ndP hp hu k⟩
  .obtain ⟨c,e⟩:=Xux (n:=s.heap.objs.size+1) k
   refine .inr ⟨.inl k,c,e,?_⟩
   have q:=x.cell y c e
   rw[Xsl ndP hp hu (by show scope.names.lookup y≠_;rw[k];decide)]at q
   exact q
 .exact e0.hok.fresh (le_of_lt (x.above y c (PySem.mem_of_lookup h)))
 .unfold Xe4
  show _=N.length
  rw[length_append,length_map,length_replicate]
  omega
theorem Ygq {CX:CXT}{P:Program}{w:World}{K:Frag}{mg:Str->Option Value}{base:Heap}{k:Nat}{f:Addr}{name qual:Str}{params:Arguments}{body:List Stmt}{scope:Scope}{dV kV doc pm cdv ct oc:Value}{an od:Option Addr}
  {osl:Array (Option Value)} {N ps:List Str} {sp:Sp} (lk:K.lookup f=some ⟨oc,od,.func (fnOf name qual params body scope dV kV doc pm an cdv ct),osl⟩) (hcd:codeIn K cdv qual=true) (S:FnScope N ps scope)
  (len:∀vs H Q E,sp vs H Q E->vs.length=ps.length)
  (hbody:∀(A:Around) (outer:List Env) (s:Shared) (H:Hp) (vs:List V) (Q:VK) (E:XK),Room k (A.deeper (envOfC qual scope s.heap.objs.size f cdv))->sp vs H Q E->
   ∃t,PSs (Xn6 CX P w K mg base N qual scope f cdv A outer s H E) body t/\t {nx:=λ_ H'=>Q .non H',rt:=Q} (Xe4 N vs) H):
  FnOk P w K mg base CX (k+1) f (fnOf name qual params body scope dV kV doc pm an cdv ct) ps sp:=by
 refine⟨len,λA outer s H args us vs Q E hr e0 hb r hsp=>?_⟩
 have hl:=len _ _ _ _ hsp
 have KX:K.In s.heap:=e0.mod.kin.keeps λb o e=>(e0.bs b o e).1
 have lim:s.heap.NoLimit:=e0.mod.nolimit.keeps λb o e=>(e0.bs b o e).1
 have hkind:∀y∈ps.zip us,scope.names.lookup y.1=some .local∨(scope.names.lookup y.1=some .cell/\((cellsFrom (s.heap.objs.size+1) scope.names []).lookup y.1).isSome=true):=λ⟨n,v⟩ hy=>by
  rcases S.par n (of_mem_zip hy).1 with q |q
  .exact .inl q
  .exact .inr ⟨q,PySem.W.cellsFrom_some _ _ _ (.inl q)⟩
 refine codeAny_call_function hr.depth (KX _ _ lk) rfl S.co S.gen rfl (PySem.W.codeRec_of KX hcd) (hb _ _ _ _ ?_)
 refine wpAny_newFunctionEnv_cells S.kind hkind λenv he s1 x=>?_
 subst he
 refine⟨lim.keeps x.toInCall.keep,codeAny_func ?_⟩
 obtain⟨t,ht,hq⟩:=hbody A outer s H vs Q E (hr.deeper _) hsp
 have I:Inv (Xn6 CX P w K mg base N qual scope f cdv A outer s H E) [] (Xe4 N vs) H s1:=Xy0 S hr.hd e0 hl r x
 refine wpAny_mono (ht [] s1 (Xe4 N vs) H _ I hq) (λfl s' hs=>?_) λe s' hs=>hs
 have fin:∀{Y':St} {H':Hp} {v:V} {u:Value},Inv (Xn6 CX P w K mg base N qual scope f cdv A outer s H E) [] Y' H' s'->Xeb v u->Q v H'->CE outer P w H s Q u s':=
  λ{Y' H' v u} J rv q=>⟨v,H',J.os,J.bare,J.base,J.hok,rv,q⟩
 cases fl with
 |ret u=>
  obtain⟨v,Y',H',J,rv,q⟩:=hs
  exact fin J rv q
 |next=>
  obtain⟨Y',H',J,q⟩:=hs
  exact fin (v:=V.non) (u:=Value.none) J rfl q
 |brk=>
  obtain⟨_,_,_,q⟩:=hs
  exact False.elim q
 |cont=>
  obtain⟨_,_,_,q⟩:=hs
  exact False.elim q
section
variable {X:Cx}{x:Str}{p pos:Pos}{e:Expr}{es:List Expr}{t:TA}{id T:String}{r:List V->Hp->VK->Prop}
def tCB (r:List V->Hp->VK->Prop)(t:TA):TE:=λY H Q=>t Y H λvs H1=>r vs H1 Q
theorem Xap (hc:Xhv X (.builtin id) r)(hg:Gl X x)(hm:X.mg x=none)(hv:bootBuiltins x=some (.builtin id))(ha:PA X (e::es) t)(hn:x ≠ "__name__":=by decide)(hdb:(x==("__debug__":Str))=false:=by decide)
  (he:starEach (e::es) X.env=(false,eval e X.env)::starEach es X.env:=by rfl) (hpl:(backTo pos (starEach es X.env)).any (·.1)=false:=by rfl):PE X (.Call (.Name x p) (e::es) [] pos) (tCB r t):=by
 intro pins s Y H Q I h
 refine wpAny_Call_Name_kw (Xkf I hg hm hv ?_ hn hdb)
 exact PyProof.Rows.callWith_builtin1 (thn (ha pos pins s Y H _ I h) λus s1 ⟨vs,H1,I1,r1,q1⟩=>hc pins s1 Y H1 vs us Q I1 r1 q1) he hpl
theorem Xdl (hc:Xhv X (.type T) r)(hg:Gl X x)(hm:X.mg x=none)(hv:bootBuiltins x=some (.type T))(ha:PA X (e::es) t)(hn:x ≠ "__name__":=by decide)(hdb:(x==("__debug__":Str))=false:=by decide)
  (he:starEach (e::es) X.env=(false,eval e X.env)::starEach es X.env:=by rfl) (hpl:(backTo pos (starEach es X.env)).any (·.1)=false:=by rfl):PE X (.Call (.Name x p) (e::es) [] pos) (tCB r t):=by
 intro pins s Y H Q I h
 refine wpAny_Call_Name_kw (Xkf I hg hm hv ?_ hn hdb)
 exact PyProof.Rows.callWith_type1 (thn (ha pos pins s Y H _ I h) λus s1 ⟨vs,H1,I1,r1,q1⟩=>hc pins s1 Y H1 vs us Q I1 r1 q1) he hpl
end
end L2
namespace HT
open PySem PyProof.Rows
section
open PySem.SeqAt
open PySem.AutoSeq1 (wpAny_loadPart')
open PySem.MeetsSeq PySem.MeetsSeq2 PySem.MeetsSeq3
end
section
variable {prog:Program}{w:World}{A:Around}{E:Value->Shared->Prop}{s:Shared}
def sIx (n d:Nat):Option Int->Nat
 |none=>d
 |some v=>if v<0 then (v+(n:Int)).toNat else min v.toNat n
theorem sIx_nat (n d k:Nat):sIx n d (some (k:Int))=min k n:=by
 show (if (k:Int)<0 then ((k:Int)+(n:Int)).toNat else min (k:Int).toNat n)=min k n
 rw[if_neg (by omega),toNat_natCast]
theorem Yh9 (n d:Nat)(hd:d<=n)(o:Option Int):sIx n d o<=n:=by
 cases o with
 |none=>exact hd
 |some v=>
  show (if v<0 then (v+(n:Int)).toNat else min v.toNat n)<=n
  by_cases hv:v<0
  .rw [if_pos hv];omega
  .rw [if_neg hv];exact Nat.min_le_right _ _
theorem Xzz (v:Int)(n d:Nat):(if v<0 then max (v+(n:Int)) 0 else min v (n:Int))=((sIx n d (some v):Nat):Int):=by
 show (if v<0 then max (v+(n:Int)) 0 else min v (n:Int))=(((if v<0 then (v+(n:Int)).toNat else min v.toNat n):Nat):Int)
 by_cases hv:v<0
 .simp only[if_pos hv];omega
 .simp only[if_neg hv];omega
theorem Xwd (lo hi:Option Int)(n:Nat):Builtin.Slice.sliceAdjust lo hi 1 (n:Int)=(((sIx n 0 lo:Nat):Int),((sIx n n hi:Nat):Int)):=by
 have h1:¬ ((1:Int)<0):=by omega
 unfold Builtin.Slice.sliceAdjust
 simp only[h1,if_false]
 refine Prod.ext ?_ ?_
 .cases lo with
  |none=>rfl
  |some v=>exact Xzz v n 0
 .cases hi with
  |none=>rfl
  |some v=>exact Xzz v n n
theorem Xvk (i j:Nat):Builtin.Slice.slicePlaces (i:Int) (j:Int) 1=j-i:=by
 unfold Builtin.Slice.slicePlaces
 have h1:(1:Int) > 0:=by omega
 simp only[h1,if_true,ediv_one]
 split<;>omega
theorem Xok {v:Value}{o:Option Int}{Q:Option Int->Shared->Prop}(p:IsPart v o)(h:Q o s):wpAny (model prog w) A (Builtin.Slice.slicePartIndex v) Q E s:=by
 cases p with
 |none=>exact slicePart_none h
 |int i t=>exact slicePart_int h
theorem sliceApplied_gen {sl:Addr}{vl vu:Value}{lo hi:Option Int}{n:Nat}{Q:Int×Int×Nat->Shared->Prop}(hs:s.heap.IsSliceOf sl vl vu .none)(pl:IsPart vl lo)(pu:IsPart vu hi)
  (h:Q (((sIx n 0 lo:Nat):Int),1,sIx n n hi-sIx n 0 lo) s):wpAny (model prog w) A (Builtin.Slice.sliceApplied (.ref sl) (pure (n:Int))) Q E s:=by
 obtain⟨os,hos,hcs,hds⟩:=id hs
 unfold Builtin.Slice.sliceApplied Builtin.Slice.sliceFields
 refine wpAny_bind (wpAny_bind (wpAny_field hos hds (x:=vl) rfl (wpAny_bind (wpAny_field hos hds (x:=vu) rfl (wpAny_bind (wpAny_field hos hds (x:=.none) rfl (wpAny_pure ?_)))))))
 refine wpAny_bind (slicePart_none ?_)
 show wpAny _ _ (if ((1:Int)==0)=true then _ else _) _ _ s
 rw[if_neg (by decide)]
 refine wpAny_bind (Xok pl (wpAny_bind (Xok pu (wpAny_bind (wpAny_pure ?_)))))
 show wpAny _ _ (match Builtin.Slice.sliceAdjust lo hi 1 (n:Int) with | (lo,hi)=>pure (lo,(1:Int),Builtin.Slice.slicePlaces lo hi 1)) _ _ s
 rw[Xwd lo hi n]
 show wpAny _ _ (pure (((sIx n 0 lo:Nat):Int),(1:Int),Builtin.Slice.slicePlaces ((sIx n 0 lo:Nat):Int) ((sIx n n hi:Nat):Int) 1)) _ _ s
 rw[Xvk]
 exact wpAny_pure h
theorem Ya5 (xs:Array Value)(i k:Nat):((List.range k).filterMap λ(m:Nat)=>xs[((i:Int)+(m:Int)*1).toNat]?).toArray=((xs.toList.drop i).take k).toArray:=by
 have e:(λ(m:Nat)=>xs[((i:Int)+(m:Int)*1).toNat]?)=λm=>xs[i+m]?:=by
  funext m
  have:((i:Int)+(m:Int)*1).toNat=i+m:=by omega
  rw[this]
 rw[e]
 have:=pick_run xs i k
 rw[filterMap_map]at this
 have e2:((λx=>xs[x]?)∘λx=>i+x)=λm=>xs[i+m]?:=rfl
 rw[e2]at this
 rw[this]
theorem getItem_tuple_cut {t sl:Addr}{items:Array Value}{vl vu:Value}{lo hi:Option Int}{Q:Value->Shared->Prop}(ht:IsTup s.heap t items)(hs:s.heap.IsSliceOf sl vl vu .none)(pl:IsPart vl lo)(pu:IsPart vu hi)
  (hw:¬ (sIx items.size 0 lo=0/\sIx items.size items.size hi=items.size))
  (h:Q (.ref s.heap.objs.size) {s with heap:=s.heap.push {cls:=.type "tuple",data:=.seq ((items.toList.drop (sIx items.size 0 lo)).take (sIx items.size items.size hi-sIx items.size 0 lo)).toArray}})
  (hsz:items.size<=sizeLine):wpAny (model prog w) A (getItem (.ref t) (.ref sl)) Q E s:=by
 have htake:sizeOk (.seq ((items.toList.drop (sIx items.size 0 lo)).take (sIx items.size items.size hi-sIx items.size 0 lo)).toArray):=by
  show ((items.toList.drop (sIx items.size 0 lo)).take (sIx items.size items.size hi-sIx items.size 0 lo)).toArray.size<=sizeLine
  rw[size_toArray,length_take,length_drop,length_toList]
  omega
 have hj:sIx items.size items.size hi<=items.size:=Yh9 _ _ (Nat.le_refl _) hi
 obtain⟨os,hos,hcs,hds⟩:=id hs
 have hTs:s.TypeIs (.ref sl) "slice":=⟨os,hos,hcs⟩
 unfold getItem
 try with_reducible refine wpAny_holding ?_
 first |refine wpAny_bind (wpAny_pure ?_) |skip
 refine wpAny_bind (wpAny_sequenceKey ht.typeIs (by decide) ?_)
 refine wpAny_bind (wpAny_callSpecial?_slot (name:=Str.ofString "__getitem__") ht.typeIs PyProof.Rows.slot_tuple_getitem
  (wpAny_call_entry PyProof.Rows.slot_tuple_getitem ht.typeIs entry_tuple_getitem ?_ (args_tuple_getitem _ _)))
 show wpAny _ _ (Builtin.Tuple.tupleItemsOf (.ref t) >>= _) _ _ s
 refine wpAny_bind (tupleItemsOf_ ht ?_)
 refine wpAny_bind (wpAny_typeOf hTs ?_)
 rw[if_pos (by decide)]
 refine wpAny_bind (sliceApplied_gen hs pl pu ?_)
 have hno:¬ ((((sIx items.size 0 lo:Nat):Int)==0 && (1:Int)==1 && (sIx items.size items.size hi-sIx items.size 0 lo)==items.size)=true):=by
  intro q
  rw[and_eq_true,and_eq_true]at q
  have q1:((sIx items.size 0 lo:Nat):Int)=0:=eq_of_beq q.1.1
  have q2:sIx items.size items.size hi-sIx items.size 0 lo=items.size:=eq_of_beq q.2
  exact hw ⟨by omega,by omega⟩
 show wpAny _ _ (if (((sIx items.size 0 lo:Nat):Int)==0 && (1:Int)==1 && (sIx items.size items.size hi-sIx items.size 0 lo)==items.size)=true then _ else _) _ _ s
 rw[if_neg hno,Ya5]
 first
  |exact wpAny_bind (m:=Builtin.Tuple.tupleExact _) (wpAny_newObj_type (wpAny_pure ⟨_,rfl,wpAny_pure h⟩) htake)
  |exact wpAny_bind (m:=Builtin.Tuple.tupleExact _) (wpAny_newObj_type (wpAny_bind (wpAny_pure (wpAny_pure ⟨_,rfl,wpAny_pure h⟩))) htake)
  |exact wpAny_bind (wpAny_bind (m:=Builtin.Tuple.tupleExact _) (wpAny_newObj_type (wpAny_pure (wpAny_pure ⟨_,rfl,wpAny_pure h⟩)) htake))
  |exact wpAny_bind (wpAny_bind (m:=Builtin.Tuple.tupleExact _) (wpAny_newObj_type (wpAny_pure ⟨_,rfl,wpAny_pure h⟩) htake))
end
end HT
namespace L2
open PySem PySem.Spec PyProof.Rows
abbrev TO:=St->Hp->(Option Int->Hp->Prop)->Prop
def PO (X:Cx)(e:Option Expr)(t:TO):Prop:=
 ∀(pins:List (Addr×Obj)) (s:Shared) (Y:St) (H:Hp) (Q:Option Int->Hp->Prop),Inv X pins Y H s->t Y H Q->
  wpAny (model X.prog X.w) X.A (evalPart e X.env) (λu s'=>∃o H',Inv X pins Y H' s'/\IsPart u o/\Q o H') X.xe s
def Xwu:TO:=λ_ H Q=>Q none H
def Yho (t:TE):TO:=λY H Q=>t Y H λx H1=>∃i,x = .int i/\Q (some i) H1
theorem Xv3 {ns:List Int}:∀{us:List Value},Xb5 (ns.map V.int) us->IntsAre us ns:=by
 induction ns with
 |nil=>intro us r;rw[map_nil]at r;cases r;exact .nil
 |cons n ns ih=>
  intro us r
  rw[map_cons]at r
  cases r with
  |cons r1 r2=>
   obtain⟨t,e⟩:=r1
   subst e
   exact .cons n t (ih r2)
section
variable {X:Cx}{e:Expr}{te:TE}{lo hi:Option Expr}{tl th:TO}{pos p2:Pos}
theorem Xh9:PO X none Xwu:=by
 intro pins s Y H Q I h
 rw[evalPart_none]
 exact wpAny_pure ⟨none,H,I,.none,h⟩
theorem Xd7 (h:PE X e te):PO X (some e) (Yho te):=by
 intro pins s Y H Q I hw
 rw[evalPart_some]
 refine thn (h pins s Y H _ I hw) λu s1 ⟨x,H1,I1,r1,q1⟩=>?_
 obtain⟨i,rfl,q⟩:=q1
 obtain⟨t,rfl⟩:=r1
 exact⟨some i,H1,I1,.int i t,q⟩
def SlR (X:Cx)(r:V->Option Int->Option Int->Hp->VK->Prop):Prop:=
 ∀(pins:List (Addr×Obj)) (s:Shared) (Y:St) (H:Hp) (x:V) (v vl vu:Value) (lo hi:Option Int) (sl:Addr) (Q:VK),Inv X pins Y H s->Xeb x v->s.heap.IsSliceOf sl vl vu .none->IsPart vl lo->IsPart vu hi->r x lo hi H Q->
  ∃T id,typeLookup (.type T) "__getitem__"=pure (some (.builtin id))/\s.TypeIs v T/\wpAny (model X.prog X.w) X.A (getItem v (.ref sl)) (EP X pins Y Q) X.xe s
def tSl (r:V->Option Int->Option Int->Hp->VK->Prop)(te:TE)(tl th:TO):TE:=λY H Q=>te Y H λx H1=>tl Y H1 λl H2=>th Y H2 λu H3=>r x l u H3 Q
theorem Xd9 {r:V->Option Int->Option Int->Hp->VK->Prop}(hr:SlR X r)(he:PE X e te)(hl:PO X lo tl)(hu:PO X hi th):PE X (.Subscript e (.Slice lo hi none p2) pos) (tSl r te tl th):=by
 intro pins s Y H Q I h
 refine Subscript_ (thn (he pins s Y H _ I h) λv s1 ⟨x,H1,I1,r1,q1⟩=>?_)
 refine wpAny_Slice (thn (hl pins s1 Y H1 _ I1 q1) λvl s2 ⟨l,H2,I2,pl,q2⟩=>thn (hu pins s2 Y H2 _ I2 q2) λvu s3 ⟨u,H3,I3,pu,q3⟩=>?_)
 rw[evalPart_none]
 refine wpAny_pure ?_
 have I4:Inv X pins Y H3 {s3 with heap:=s3.heap.push {cls:=.type "slice",data:=.fields #[vl,vu,.none]}}:=I3.kept (t':=s3.toks) λb ob q=>get?_push_of_some _ q
 obtain⟨T,id,hT,ht,hg⟩:=hr pins {s3 with heap:=s3.heap.push {cls:=.type "slice",data:=.fields #[vl,vu,.none]}} Y H3 x v vl vu l u s3.heap.objs.size Q I4 r1 (Heap.IsSliceOf.new ..) pl pu q3
 show wpAny (model X.prog X.w) X.A (subscriptTail e (.Slice lo hi none p2) v (.ref s3.heap.objs.size)) (EP X pins Y Q) X.xe {s3 with heap:=s3.heap.push {cls:=.type "slice",data:=.fields #[vl,vu,.none]}}
 exact tail_any (ops:=[.ref s3.heap.objs.size,v]) ht hT hg (by with_unfolding_all rfl)
def Yaf (xs:List V)(lo hi:Option Int):List V:=(xs.drop (HT.sIx xs.length 0 lo)).take (HT.sIx xs.length xs.length hi-HT.sIx xs.length 0 lo)
theorem Xnd (xs:List V)(lo hi:Option Int):(Yaf xs lo hi).length<=xs.length:=by
 unfold Yaf
 rw[length_take,length_drop]
 omega
def Ynj (K:Frag):V->Option Int->Option Int->Hp->VK->Prop:=λx lo hi H Q=>∃a xs,x = .ref a/\SqT K H a xs/\
 ¬ (HT.sIx xs.length 0 lo=0/\HT.sIx xs.length xs.length hi=xs.length)/\∀p,H p=none->Q (.ref p) (upd H p (.tup (Yaf xs lo hi)))
theorem Yhx:SlR X (Ynj X.K):=by
 intro pins s Y H x v vl vu lo hi sl Q I rx hs pl pu h
 obtain⟨a,xs,rfl,hx,hw,q⟩:=h
 cases rx
 obtain⟨its,r,ht,hz⟩:=I.tuple hx
 have hlen:its.toArray.size=xs.length:=by rw[size_toArray];exact r.length.symm
 refine⟨"tuple",_,PyProof.Rows.slot_tuple_getitem.lookup,ht.typeIs,?_⟩
 refine HT.getItem_tuple_cut ht hs pl pu (by rw[hlen];exact hw) ?_ (by rw[hlen];exact hz)
 rw[hlen]
 refine⟨.ref s.heap.objs.size,_,I.laid (t':=s.toks) (o:=.tup (Yaf xs lo hi)) (λb ob q=>get?_push_of_some _ q) (Nat.le_refl _) ?_,rfl,q _ (I.hok.fresh (Nat.le_refl _))⟩
 exact⟨le_trans (Xnd xs lo hi) hz,_,(r.drop (HT.sIx xs.length 0 lo)).take (HT.sIx xs.length xs.length hi-HT.sIx xs.length 0 lo),IsTup.new _ _⟩
end
def ixN (n:Nat)(i:Int):Option Nat:=if 0<=i then (if i<n then some i.toNat else none) else if -(n:Int)<=i then some (i+n).toNat else none
def atI {α:Type}(xs:List α)(i:Int):Option α:=(ixN xs.length i).bind λj=>xs[j]?
theorem Xyy {n:Nat}{i:Int}{j:Nat}(h:ixN n i=some j):seqIndex? i n=some j/\j<n/\-(n:Int)<=i/\i<n:=by
 unfold ixN at h
 by_cases h0:0<=i
 .rw [if_pos h0]at h
  by_cases h1:i<n
  .rw [if_pos h1]at h
   have e:i.toNat=j:=Option.some.inj h
   exact⟨by rw[seqIndex_of h0 h1,e],by omega,by omega,h1⟩
  .rw [if_neg h1]at h;cases h
 .rw [if_neg h0]at h
  by_cases h1 : -(n:Int)<=i
  .rw [if_pos h1]at h
   have e:(i+n).toNat=j:=Option.some.inj h
   exact⟨by rw[seqIndex_neg (by omega) h1,e],by omega,h1,by omega⟩
  .rw [if_neg h1]at h;cases h
theorem Xto {α:Type}{xs:List α}{i:Int}{v:α}(h:atI xs i=some v):∃j,seqIndex? i xs.length=some j/\xs[j]?=some v/\j<xs.length/\-(xs.length:Int)<=i/\i<xs.length:=by
 unfold atI at h
 cases e:ixN xs.length i with
 |none=>rw[e]at h;cases h
 |some j=>
  rw[e]at h
  obtain⟨h1,h2,h3,h4⟩:=Xyy e
  exact⟨j,h1,h,h2,h3,h4⟩
theorem Xfa {α:Type}{xs:List α}{j:Nat}{v:α}(h:xs[j]?=some v):atI xs (j:Int)=some v:=by
 have hj:j<xs.length:=(List.getElem?_eq_some_iff.mp h).1
 have e:ixN xs.length (j:Int)=some j:=by
  unfold ixN
  rw[if_pos (by omega),if_pos (by omega)];simp
 unfold atI;rw[e];exact h
theorem Yb7 {α:Type}(xs:List α)(v:α):atI (xs++[v]) (-1)=some v:=by
 have hl:(xs++[v]).length=xs.length+1:=by simp
 have e:ixN (xs++[v]).length (-1)=some xs.length:=by
  unfold ixN
  rw[hl,if_neg (by decide),if_pos (by omega)]
  congr 1
  omega
 unfold atI
 rw[e]
 show (xs++[v])[xs.length]?=some v
 simp
def Yad (b:Expr):Prop:=∀o i,subscripted b false o i=operate [o,i] (getItem o i)
def IxR (X:Cx)(r:R2):Prop:=
 ∀(value slice:Expr) (pins:List (Addr×Obj)) (s:Shared) (Y:St) (H:Hp) (x y:V) (v u:Value) (Q:VK),Inv X pins Y H s->Xeb x v->Xeb y u->r x y H Q->
  subscripted slice false v u=operate [v,u] (getItem v u)->wpAny (model X.prog X.w) X.A (subscriptTail value slice v u) (EP X pins Y Q) X.xe s
def MtR (X:Cx)(id:String)(r:V->List V->Hp->VK->Prop):Prop:=
 ∀(pins:List (Addr×Obj)) (s:Shared) (Y:St) (H:Hp) (x:V) (xs:List V) (v:Value) (us:List Value) (Q:VK),Inv X pins Y H s->Xeb x v->Xb5 xs us->r x xs H Q->
  wpAny (model X.prog X.w) X.A (call (.builtin id) (v::us)) (EP X pins Y Q) X.xe s
section
variable {X:Cx}{a b:Expr}{ta tb:TE}{pos:Pos}
theorem Xbc {r:R2}(hr:IxR X r)(ha:PE X a ta)(hb:PE X b tb)(hs:Yad b):PE X (.Subscript a b pos) (tOp r ta tb):=by
 intro pins s Y H Q I h
 exact Subscript_ (Yly ha hb I h λv u s2 x y H2 I2 rx ry q=>hr a b pins s2 Y H2 x y v u Q I2 rx ry q (hs _ _))
def Ykv (K:Frag):R2:=λx y H Q=>∃p xs i v,x = .ref p/\y = .int i/\SqL K H p xs/\atI xs i=some v/\Q v H
def Ymn (K:Frag):R2:=λx y H Q=>∃p xs i v,x = .ref p/\y = .int i/\SqT K H p xs/\atI xs i=some v/\Q v H
def Ymo:R2:=λx y H Q=>∃z i c,x = .str z/\y = .int i/\z.length<=sizeLine/\atI z.cps.toList i=some c/\Q (.str ⟨#[c]⟩) H
theorem Xbt:IxR X (Ykv X.K):=by
 intro value slice pins s Y H x y v u Q I rx ry h hs
 obtain⟨p,xs,i,z,rfl,rfl,hq,he,q⟩:=h
 cases rx
 obtain⟨t,rfl⟩:=ry
 obtain⟨its,r,pl,hz⟩:=I.list hq
 obtain⟨j,h1,h2,h3,h4,h5⟩:=Xto he
 obtain⟨w,ew,rw'⟩:=r.get h2
 have hl:=r.length
 have hn:=Xlk
 have fin:EP X pins Y Q w s:=⟨z,H,I,rw',q⟩
 by_cases h0:0<=i
 .have hj:i.toNat=j:=by
   rw[seqIndex_of h0 h5]at h1
   exact Option.some.inj h1
  exact item_listR pl.isList h0 (by omega) (by rw[hj];simpa using ew) fin hs
 .have hj:(i+(its.toArray.size:Int)).toNat=j:=by
   rw[seqIndex_neg (by omega) h4]at h1
   rw[size_toArray,<- hl]
   exact Option.some.inj h1
  exact subscriptTail_builtinR (x:=w) pl.isList.typeIs slot_list_getitem.lookup
   (wpAny_getItem_list_neg (Q:=λr s'=>r=w/\EP X pins Y Q r s') pl.isList (by omega) (by rw[size_toArray]<;>omega) (by omega) (by rw[hj];simpa using ew) ⟨rfl,fin⟩) hs
theorem Xa9:IxR X (Ymn X.K):=by
 intro value slice pins s Y H x y v u Q I rx ry h hs
 obtain⟨p,xs,i,z,rfl,rfl,hq,he,q⟩:=h
 cases rx
 obtain⟨t,rfl⟩:=ry
 obtain⟨its,r,pl,hz⟩:=I.tuple hq
 obtain⟨j,h1,h2,h3,h4,h5⟩:=Xto he
 obtain⟨w,ew,rw'⟩:=r.get h2
 have hl:=r.length
 have hn:=Xlk
 have fin:EP X pins Y Q w s:=⟨z,H,I,rw',q⟩
 exact subscriptTail_builtinR (x:=w) pl.typeIs slot_tuple_getitem.lookup
  (getItem_tuple (j:=j) (Q:=λr s'=>r=w/\EP X pins Y Q r s') pl (by omega) (by omega) (by rw[size_toArray,<- hl];exact h1) (by simpa using ew) ⟨rfl,fin⟩) hs
theorem Yji:IxR X Ymo:=by
 intro value slice pins s Y H x y v u Q I rx ry h hs
 obtain⟨z,i,c,rfl,rfl,hz,he,q⟩:=h
 obtain⟨t,rfl⟩:=rx
 obtain⟨t',rfl⟩:=ry
 obtain⟨j,h1,h2,h3,h4,h5⟩:=Xto he
 have hl:z.cps.toList.length=z.length:=by simp[Str.length]
 rw[hl]at h1 h4 h5
 have hn:=Xlk
 exact tail_any (typeIs_str s z t) slot_str_getitem.lookup (getItem_str (c:=c) (by
  have e1:decide (i < -(2^63:Int))=false:=decide_eq_false (by omega)
  have e2:decide (i>=2^63)=false:=decide_eq_false (by omega)
  rw[e1,e2,Bool.or_false]) (by rw[h1];simpa using h2) ⟨.str ⟨#[c]⟩,H,I.tok _,⟨_,rfl⟩,q⟩) hs
theorem Xvw (its:List Value)(n j:Nat)(u:Value):Obj.mapSeq (·.setIfInBounds j u) {cls:=.type "list",data:=.seq its.toArray n}={cls:=.type "list",data:=.seq (its.set j u).toArray n}:=by
 simp[Obj.mapSeq]
theorem Inv.lst {pins:List (Addr×Obj)}{Y:St}{H:Hp}{s:Shared}{p:Addr}{xs:List V}(I:Inv X pins Y H s)(h:H p=some (.lst xs)):
  ∃(its:List Value) (n:Nat),Xb5 xs its/\s.heap.get? p=some {cls:=.type "list",data:=.seq its.toArray n}/\xs.length<=sizeLine:=by
 obtain⟨z,its,n,r,e⟩:=I.hok p _ h
 exact⟨its,n,r,e,z⟩
theorem Inv.lstUpd {pins:List (Addr×Obj)}{Y:St}{H:Hp}{s:Shared}{p:Addr}{xs ys:List V}{its its':List Value}{n n':Nat}{f:Obj->Obj}(I:Inv X pins Y H s)(h:H p=some (.lst xs))
  (ho:s.heap.get? p=some {cls:=.type "list",data:=.seq its.toArray n}) (hf:f {cls:=.type "list",data:=.seq its.toArray n}={cls:=.type "list",data:=.seq its'.toArray n'}) (r:Xb5 ys its') (hz:ys.length<=sizeLine) (t:Nat):
  Inv X pins Y (upd H p (.lst ys)) {s with heap:=s.heap.update p f,toks:=t}:=by
 have e:(s.heap.update p f).get? p=some {cls:=.type "list",data:=.seq its'.toArray n'}:=by
  rw[get?_update_self f ho (by rw[hf]<;>rfl),hf]
 refine I.write (x:=p) (e:=p) (by rw[h];trivial) (.inl rfl) (λb u hb q=>(Heap.get?_update_other _ _ (Ne.symm hb)).trans q) ⟨_,e⟩ ?_
 exact⟨hz,its',n',r,e⟩
def Ya0:V->V->V->Hp->(Hp->Prop)->Prop:=λo i v H Q=>∃p xs k j,o = .ref p/\i = .int k/\H p=some (.lst xs)/\ixN xs.length k=some j/\Q (upd H p (.lst (xs.set j v)))
theorem Xly:Yl4 X Ya0:=by
 intro pins s Y H o i v ov iv u Q I ro ri rv h
 obtain⟨p,xs,k,j,rfl,rfl,hp,hj,q⟩:=h
 cases ro
 obtain⟨t,rfl⟩:=ri
 obtain⟨its,n,r,ho,hz⟩:=I.lst hp
 obtain⟨h1,h2,h3,h4⟩:=Xyy hj
 have hl:=r.length
 have hn:=Xlk
 have I':Inv X pins Y (upd H p (.lst (xs.set j v))) {s with heap:=s.heap.update p (Obj.mapSeq (·.setIfInBounds j u))}:=
  I.lstUpd hp ho (Xvw its n j u) (r.set rv j) (by rw[length_set];exact hz) s.toks
 by_cases h0:0<=k
 .have hk:k.toNat=j:=by
   rw[seqIndex_of h0 h4]at h1
   exact Option.some.inj h1
  exact PySem.W.ki_setAt ho h0 (by omega) (by rw[size_toArray,<- hl];exact h4) (by rw[hk];exact⟨_,I',q⟩)
 .have hk:(k+(its.toArray.size:Int)).toNat=j:=by
   rw[seqIndex_neg (by omega) h3]at h1
   rw[size_toArray,<- hl]
   exact Option.some.inj h1
  exact PySem.W.ki_setBack ho (by omega) (by rw[size_toArray,<- hl];exact h3) (by omega) (by rw[hk];exact⟨_,I',q⟩)
theorem Xqn (lo hi:Option Int)(n:Nat):(sliceBounds lo hi none n).1=((HT.sIx n 0 lo:Nat):Int)/\(sliceBounds lo hi none n).2.1=((HT.sIx n n hi:Nat):Int)/\(sliceBounds lo hi none n).2.2=1:=by
 refine⟨?_,?_,rfl⟩
 .cases lo with
  |none=>simp[sliceBounds,HT.sIx]
  |some i=>
   simp only[sliceBounds,HT.sIx,getD_none,show (1:Int) > 0 by decide,if_true]
   by_cases h:i<0
   .simp only[h,if_true]<;>omega
   .simp only[h,if_false]<;>omega
 .cases hi with
  |none=>simp[sliceBounds,HT.sIx]
  |some i=>
   simp only[sliceBounds,HT.sIx,getD_none,show (1:Int) > 0 by decide,if_true]
   by_cases h:i<0
   .simp only[h,if_true]<;>omega
   .simp only[h,if_false]<;>omega
theorem Xo5 (its:List Value)(lo hi:Option Int):slicePick its.toArray lo hi none=((its.drop (HT.sIx its.length 0 lo)).take (HT.sIx its.length its.length hi-HT.sIx its.length 0 lo)).toArray:=by
 obtain⟨h1,h2,h3⟩:=Xqn lo hi its.toArray.size
 unfold slicePick
 rw[h1,h2,h3]
 simp only[sliceRange_one,pick_run,size_toArray]<;>rfl
def Ynk (K:Frag):V->Option Int->Option Int->Hp->VK->Prop:=λx lo hi H Q=>∃a xs,x = .ref a/\SqL K H a xs/\∀p,H p=none->Q (.ref p) (upd H p (.lst (Yaf xs lo hi)))
theorem Yef:SlR X (Ynk X.K):=by
 intro pins s Y H x v vl vu lo hi sl Q I rx hs pl pu h
 obtain⟨a,xs,rfl,hx,q⟩:=h
 cases rx
 obtain⟨its,r,ht,hz⟩:=I.list hx
 have hlen:=r.length
 refine⟨"list",_,slot_list_getitem.lookup,ht.isList.typeIs,?_⟩
 refine wpAny_getItem_list_slice ht.isList hs pl pu .none (by simp) ?_ (by rw[size_toArray]<;>omega)
 rw[Xo5,<- hlen]
 refine⟨.ref s.heap.objs.size,_,I.laid (t':=s.toks) (o:=.lst (Yaf xs lo hi)) (λb ob q=>get?_push_of_some _ q) (Nat.le_refl _) ?_,rfl,q _ (I.hok.fresh (Nat.le_refl _))⟩
 exact⟨le_trans (Xnd xs lo hi) hz,_,0,(r.drop (HT.sIx xs.length 0 lo)).take (HT.sIx xs.length xs.length hi-HT.sIx xs.length 0 lo),get?_push_size _ rfl⟩
def Yb1:V->Bool
 | .non=>true
 | .bl _=>true
 | .int _=>true
 | .str _=>true
 |_=>false
def eqV:V->V->Bool
 | .non,.non=>true
 | .bl a,.bl b=>a==b
 | .bl a,.int b=>(if a then 1 else 0)==b
 | .int a,.bl b=>a==(if b then 1 else 0)
 | .int a,.int b=>a==b
 | .str a,.str b=>a==b
 |_,_=>false
theorem Yjz {A:Around}{s:Shared}{y x:V}{u v:Value}(ry:Xeb y u)(rx:Xeb x v)(fy:Yb1 y=true)(fx:Yb1 x=true):SeqAt.EqAt A s u v (eqV y x):=by
 cases y with
 |non=>
  cases ry
  cases x with
  |non=>cases rx;exact SeqAt.EqAt.same _
  |bl b=>cases rx;exact SeqAt.EqAt.none_bool b
  |int b=>obtain⟨t,rfl⟩:=rx;exact SeqAt.EqAt.none_int b t
  |str b=>obtain⟨t,rfl⟩:=rx;exact SeqAt.EqAt.none_str b t
  |_=>exact absurd (show false=true from fx) Bool.false_ne_true
 |bl a=>
  cases ry
  cases x with
  |non=>cases rx;exact SeqAt.EqAt.bool_none a
  |bl b=>cases rx;exact SeqAt.EqAt.bool_bool a b
  |int b=>obtain⟨t,rfl⟩:=rx;exact SeqAt.EqAt.bool_int a b t
  |str b=>obtain⟨t,rfl⟩:=rx;exact SeqAt.EqAt.bool_str a b t
  |_=>exact absurd (show false=true from fx) Bool.false_ne_true
 |int a=>
  obtain⟨t',rfl⟩:=ry
  cases x with
  |non=>cases rx;exact SeqAt.EqAt.int_none a t'
  |bl b=>cases rx;exact SeqAt.EqAt.int_bool a t' b
  |int b=>obtain⟨t,rfl⟩:=rx;exact SeqAt.EqAt.int_int a t' b t
  |str b=>obtain⟨t,rfl⟩:=rx;exact SeqAt.EqAt.int_str a t' b t
  |_=>exact absurd (show false=true from fx) Bool.false_ne_true
 |str a=>
  obtain⟨t',rfl⟩:=ry
  cases x with
  |non=>cases rx;exact SeqAt.EqAt.str_none a t'
  |bl b=>cases rx;exact SeqAt.EqAt.str_bool a t' b
  |int b=>obtain⟨t,rfl⟩:=rx;exact SeqAt.EqAt.str_int a t' b t
  |str b=>obtain⟨t,rfl⟩:=rx;exact SeqAt.EqAt.str_str a t' b t
  |_=>exact absurd (show false=true from fx) Bool.false_ne_true
 |_=>exact absurd (show false=true from fy) Bool.false_ne_true
theorem Xaw:Xhv X (.builtin "len") (λxs H Q=>∃p ys,xs=[.ref p]/\(SqL X.K H p ys∨SqT X.K H p ys)/\Q (.int ys.length) H):=by
 intro pins s Y H xs us Q I r h
 obtain⟨p,ys,rfl,hq,q⟩:=h
 obtain⟨u,rfl,rx⟩:=Xiy r
 cases rx
 have hn:=Xlk
 rcases hq with hq |hq
 .obtain ⟨its,r',pl,hz⟩:=I.list hq
  have hlen:=r'.length
  exact Calls.call_len_list pl.isList (by simp only[size_toArray]<;>omega) ⟨.int ys.length,H,I.tok _,⟨s.toks+1,by rw[size_toArray,hlen]⟩,q⟩
 .obtain ⟨its,r',pl,hz⟩:=I.tuple hq
  have hlen:=r'.length
  exact len_tuple pl (by simp only[size_toArray]<;>omega) ⟨.int ys.length,H,I.tok _,⟨s.toks+1,by rw[size_toArray,hlen]⟩,q⟩
theorem Xbj:Xhv X (.builtin "len") (λxs H Q=>∃z,xs=[.str z]/\z.length<=sizeLine/\Q (.int z.length) H):=by
 intro pins s Y H xs us Q I r h
 obtain⟨z,rfl,hz,q⟩:=h
 obtain⟨u,rfl,t,rfl⟩:=Xiy r
 have hn:=Xlk
 exact len_str (by omega) ⟨.int z.length,H,I.tok _,⟨_,rfl⟩,q⟩
theorem Xse:Xhv X (.type "list") (λxs H Q=>∃p ys,xs=[.ref p]/\(SqL X.K H p ys∨SqT X.K H p ys)/\∀l,H l=none->Q (.ref l) (upd H l (.lst ys))):=by
 intro pins s Y H xs us Q I r h
 obtain⟨p,ys,rfl,hq,q⟩:=h
 obtain⟨u,rfl,rx⟩:=Xiy r
 cases rx
 have fin:∀(its:List Value),Xb5 ys its->ys.length<=sizeLine->∀(h':Heap) (c':Nat),(∀b o',s.heap.get? b=some o'->h'.get? b=some o')->
   h'.get? s.heap.objs.size=some {cls:=.type "list",dict:=none,data:=.seq its.toArray c',slots:=#[]}->EP X pins Y Q (.ref s.heap.objs.size) {s with heap:=h'}:=λits r' hz h' c' kp e=>
  ⟨.ref s.heap.objs.size,_,I.laid (t':=s.toks) kp (Nat.le_refl _) (show Xf2 X.prog X.w _ h' _ (.lst ys) from⟨hz,its,c',r',e⟩),rfl,q _ (I.hok.fresh (Nat.le_refl _))⟩
 rcases hq with hq |hq
 .obtain ⟨its,r',pl,hz⟩:=I.list hq
  have hlen:=r'.length
  obtain⟨o,ho,hc,n,hd⟩:=pl.isList
  exact call_list_seq p (.inl rfl) ho hc hd (λh' c' kp e=>fin its r' hz h' c' kp e) (by simp only[size_toArray]<;>omega)
 .obtain ⟨its,r',pl,hz⟩:=I.tuple hq
  have hlen:=r'.length
  obtain⟨o,ho,hc,n,hd⟩:=pl
  exact call_list_seq p (.inr rfl) ho hc hd (λh' c' kp e=>fin its r' hz h' c' kp e) (by simp only[size_toArray]<;>omega)
theorem Xp2:Xhv X (.type "tuple") (λxs H Q=>∃p ys,xs=[.ref p]/\((SqL X.K H p ys/\∀l,H l=none->Q (.ref l) (upd H l (.tup ys)))∨(SqT X.K H p ys/\Q (.ref p) H))):=by
 intro pins s Y H xs us Q I r h
 obtain⟨p,ys,rfl,h⟩:=h
 obtain⟨u,rfl,rx⟩:=Xiy r
 cases rx
 rcases h with⟨hq,q⟩ | ⟨hq,q⟩
 .obtain ⟨its,r',pl,hz⟩:=I.list hq
  have hlen:=r'.length
  refine call_tuple_list pl.isList (λh' kp=>?_) (by simp only[size_toArray]<;>omega)
  have I1:Inv X pins Y H {s with heap:=h'}:=I.kept (t':=s.toks) kp
  have I2:Inv X pins Y (upd H h'.objs.size (.tup ys)) {s with heap:=h'.push {cls:=.type "tuple",data:=.seq its.toArray}}:=
   I1.laid (t':=s.toks) (λb o e=>get?_push_of_some _ e) (Nat.le_refl _) (show Xf2 X.prog X.w _ _ _ (.tup ys) from⟨hz,its,r',IsTup.new _ _⟩)
  exact⟨.ref h'.objs.size,_,I2,rfl,q _ (I1.hok.fresh (Nat.le_refl _))⟩
 .obtain ⟨its,r',pl,hz⟩:=I.tuple hq
  exact call_tuple_same pl ⟨.ref p,H,I,rfl,q⟩
def tyV (K:Frag)(T:String)(x:V)(H:Hp):Prop:=match x with
 | .str _=>T = "str"
 | .int _=>T = "int"
 | .ref p=>(T = "list"/\∃xs,SqL K H p xs)∨(T = "tuple"/\∃o,K.lookup p=some o/\o.cls = .type "tuple"/\o.dict=none)∨
   (T = "dict"/\((∃kvs,H p=some (.dK kvs))∨∃kvs,H p=some (.dT kvs)))∨(T = "set"/\∃S n,H p=some (.set S n))
 |_=>False
theorem Ycf {pins:List (Addr×Obj)}{Y:St}{H:Hp}{s:Shared}{T:String}{x:V}{v:Value}(I:Inv X pins Y H s)(r:Xeb x v)(ty:tyV X.K T x H):
  s.TypeIs v T/\∀a,v = .ref a->∃ob,s.heap.get? a=some ob/\ob.dict=none:=by
 cases x with
 |str z=>
  obtain⟨t,rfl⟩:=r
  cases (show T = "str" from ty)
  exact⟨typeIs_str s z t,λ_ e=>nomatch e⟩
 |int i=>
  obtain⟨t,rfl⟩:=r
  cases (show T = "int" from ty)
  exact⟨typeIs_int s i t,λ_ e=>nomatch e⟩
 |ref p =>
  cases r
  rcases ty with⟨rfl,xs,hq⟩ | ⟨rfl,o,hk,hc,hd⟩ | ⟨rfl,hk⟩ | ⟨rfl,S,n,hk⟩
  .obtain ⟨its,_,pl,_⟩:=I.list hq
   refine⟨pl.isList.typeIs,λa e=>?_⟩
   cases e
   obtain⟨o,n,e,c,hd,_⟩:=pl
   exact⟨o,e,hd⟩
  .refine ⟨⟨o,I.kIn p o hk,hc⟩,λa e=>?_⟩
   cases e
   exact⟨o,I.kIn _ o hk,hd⟩
  .have z:∃o,s.heap.get? p=some o/\o.ExactDict:=by
    rcases hk with⟨kvs,hk⟩ | ⟨kvs,hk⟩
    .obtain ⟨_,_,_,_,o,_,_,e,ex,_⟩:=I.hok p _ hk
     exact⟨o,e,ex⟩
    .obtain ⟨_,_,_,_,o,_,_,e,ex,_⟩:=I.hok p _ hk
     exact⟨o,e,ex⟩
   obtain⟨o,e,ex⟩:=z
   refine⟨⟨o,e,ex.1⟩,λa e2=>?_⟩
   cases e2
   exact⟨o,e,ex.2.1⟩
  .obtain ⟨o,_,_,_,e,ex,_⟩:=I.hok p _ hk
   refine⟨⟨o,e,ex.1⟩,λa e2=>?_⟩
   cases e2
   exact⟨o,e,ex.2.1⟩
 |_=>exact False.elim ty
def Ykt (K:Frag)(T:String)(r:V->List V->Hp->VK->Prop)(to:TE):TE:=λY H Q=>to Y H λx H1=>tyV K T x H1/\r x [] H1 Q
def tBM (K:Frag)(T:String)(r:V->List V->Hp->VK->Prop)(to:TE)(t:TA):TE:=λY H Q=>to Y H λx H1=>tyV K T x H1/\t Y H1 λxs H2=>r x xs H2 Q
variable {o e:Expr}{es:List Expr}{to:TE}{t:TA}{name:Str}{apos cpos:Pos}{T id:String}{r:V->List V->Hp->VK->Prop}
theorem Xx7 (pa:PlainAttrs T)(slot:Slot T name id)(hty:typeOf (.builtin id)=pure (.type "method_descriptor"))(hm:MtR X id r)(ho:PE X o to)
  (hbase:attributeBase o name X.env (eval o X.env)=eval o X.env:=by rfl) (hline:(apos.endLine==cpos.line)=true:=by rfl):PE X (.Call (.Attribute o name apos) [] [] cpos) (Ykt X.K T r to):=by
 intro pins s Y H Q I h
 refine wpAny_Call_method0_late hbase hline (thn (ho pins s Y H _ I h) λv s1 ⟨x,H1,I1,r1,ty,q1⟩=>?_)
 obtain⟨h1,h2⟩:=Ycf I1 r1 ty
 exact⟨T,id,pa,slot,hty,h1,h2,Calls.callWith_builtin rfl (PySem.evalArgs_none (hm pins s1 Y H1 x [] v [] Q I1 r1 .nil q1))⟩
theorem Xec (pa:PlainAttrs T)(slot:Slot T name id)(hty:typeOf (.builtin id)=pure (.type "method_descriptor"))(hm:MtR X id r)(ho:PE X o to)(ha:PA X (e::es) t)
  (hbase:attributeBase o name X.env (eval o X.env)=eval o X.env:=by rfl)
  (hfew:((backTo cpos (starEach (e::es) X.env)).all (λx => !x.1) && (backToKw cpos (keywordEach [] X.env)).all (λx=>x.1.isSome)
   && decide ((e::es).length+([]:List Keyword).length+(if ([]:List Keyword).isEmpty then 0 else 1)<30))=true:=by rfl)
  (hline:(apos.endLine==cpos.line)=true:=by rfl) (hs:starEach (e::es) X.env=(false,eval e X.env)::starEach es X.env:=by rfl) (hplain:(backTo cpos (starEach es X.env)).any (·.1)=false:=by rfl):
  PE X (.Call (.Attribute o name apos) (e::es) [] cpos) (tBM X.K T r to t):=by
 intro pins s Y H Q I h
 refine wpAny_Call_method_late hbase hfew hline rfl (thn (ho pins s Y H _ I h) λv s1 ⟨x,H1,I1,r1,ty,q1⟩=>?_)
 obtain⟨h1,h2⟩:=Ycf I1 r1 ty
 refine⟨T,id,pa,slot,hty,h1,h2,?_⟩
 have hA:=ha cpos pins s1 Y H1 _ I1 q1
 rw[hs]at hA ⊢
 refine Calls.callWith_builtin (by show (false || (backTo cpos (starEach es X.env)).any (·.1))=false;rw[hplain]<;>rfl) (Calls.evalArgs_plain ?_)
 exact thn hA λus s2 ⟨vs,H2,I2,r2,q2⟩=>hm pins s2 Y H2 x vs v us Q I2 r1 r2 q2
end
def MtM (X:Cx)(id:String)(r:V->List V->Hp->VK->Prop):Prop:=
 ∀(pins:List (Addr×Obj)) (s:Shared) (Y:St) (H:Hp) (x:V) (xs:List V) (v:Value) (us:List Value) (Q:VK),Inv X pins Y H s->Xeb x v->Xb5 xs us->r x xs H Q->
  wpAny (model X.prog X.w) X.A (call (.builtin id) (v::us)) (EP X pins Y Q) X.xe s
theorem Xb5.one:∀{x:V} {us:List Value},Xb5 [x] us->∃u,us=[u]/\Xeb x u
 |_,_,.cons r .nil=>⟨_,rfl,r⟩
theorem Xb5.zero:∀{us:List Value},Xb5 [] us->us=[]
 |_,.nil=>rfl
theorem Xb5.dropLast {xs:List V}{us:List Value}(h:Xb5 xs us):Xb5 xs.dropLast us.dropLast:=by
 induction h with
 |nil=>exact .nil
 |cons r t ih=>
  cases t with
  |nil=>exact .nil
  |cons q t'=>exact .cons r ih
theorem Xb5.reverse {xs:List V}{us:List Value}(h:Xb5 xs us):Xb5 xs.reverse us.reverse:=by
 induction h with
 |nil=>exact .nil
 |cons r t ih=>rw[reverse_cons,reverse_cons];exact Xb5.append ih (.cons r .nil)
theorem Xb5.rep {xs:List V}{us:List Value}(h:Xb5 xs us):∀k:Nat,Xb5 (List.replicate k xs).flatten (List.replicate k us).flatten
 | 0=>.nil
 |k+1=>by
  rw[replicate_succ,replicate_succ,flatten_cons,flatten_cons]
  exact Xb5.append h (Xb5.rep h k)
theorem Xv9 {α:Type}(l:List α):l.eraseIdx (l.length-1)=l.dropLast:=by
 induction l with
 |nil=>rfl
 |cons a r ih=>
  cases r with
  |nil=>rfl
  |cons b r=>
   have e:(a::b::r).length-1=((b::r).length-1)+1:=by
    have h1:(a::b::r).length=r.length+2:=rfl
    have h2:(b::r).length=r.length+1:=rfl
    omega
   rw[e,List.eraseIdx_cons_succ,ih]
   all_goals rfl
theorem Xr9 (its:List Value):∀(k:Nat) (acc:List Value),
  List.foldl (λx1 x2=>x1++x2) acc.toArray (List.replicate k its.toArray)=(acc++(List.replicate k its).flatten).toArray
 | 0,acc=>by simp
 |k + 1,acc=>by
  have e:acc.toArray++its.toArray=(acc++its).toArray:=by simp
  have e2:(acc++its)++(List.replicate k its).flatten=acc++(List.replicate (k+1) its).flatten:=by
   rw[replicate_succ,flatten_cons,append_assoc]
  rw[<- e2,<- Xr9 its k (acc++its),<- e,replicate_succ,foldl_cons]
section
variable {X:Cx}{pins:List (Addr×Obj)}{Y:St}{H:Hp}{s:Shared}{l b:Addr}{xs ys zs:List V}
theorem Inv.lset {its its':List Value}{n:Nat}{f:Array Value->Array Value}{t':Nat}(I:Inv X pins Y H s)(hH:H l=some (.lst xs))
  (e:s.heap.get? l=some {cls:=.type "list",data:=.seq its.toArray n}) (hf:f its.toArray=its'.toArray) (hv:Xb5 ys its') (hz:ys.length<=sizeLine):
  Inv X pins Y (upd H l (.lst ys)) {s with heap:=s.heap.update l (Obj.mapSeq f),toks:=t'}:=by
 have q:=PySem.IsL.update e f
 rw[hf]at q
 refine I.write (x:=l) (e:=l) (by rw[hH];exact trivial) (.inl rfl) (λb' u hb hu=>(Heap.get?_update_other s.heap (Obj.mapSeq f) (Ne.symm hb)).trans hu) ⟨_,q⟩ ?_
 exact⟨hz,its',_,hv,q⟩
theorem Inv.lnew {its:List Value}{t':Nat}(I:Inv X pins Y H s)(hv:Xb5 ys its)(hz:ys.length<=sizeLine):
  Inv X pins Y (upd H s.heap.objs.size (.lst ys)) {s with heap:=s.heap.push {cls:=.type "list",data:=.seq its.toArray},toks:=t'}:=
 I.laid (λ_ _ q=>get?_push_of_some _ q) (Nat.le_refl _) ⟨hz,its,0,hv,get?_push_size _ rfl⟩
theorem Inv.fresh (I:Inv X pins Y H s):H s.heap.objs.size=none:=I.hok.fresh (Nat.le_refl _)
theorem Inv.lstM (I:Inv X pins Y H s)(hH:H l=some (.lst xs)):xs.length<=sizeLine/\∃(its:List Value) (n:Nat),Xb5 xs its/\xs.length=its.length/\s.heap.get? l=some {cls:=.type "list",data:=.seq its.toArray n}:=by
 obtain⟨z,its,n,r,e⟩:=I.hok l _ hH
 exact⟨z,its,n,r,r.length,e⟩
theorem Xui {n:Nat}(h:n<=sizeLine):Builtin.List.listTooLong n=false:=by
 unfold Builtin.List.listTooLong
 exact decide_eq_false (by omega)
end
section
variable {X:Cx}
def rAppend:V->List V->Hp->VK->Prop:=λx vs H Q=>∃l xs y,x = .ref l/\vs=[y]/\H l=some (.lst xs)/\xs.length<sizeLine/\Q .non (upd H l (.lst (xs++[y])))
theorem Xcw:MtM X "list.append" rAppend:=by
 intro pins s Y H x vs v us Q I rx rv h
 obtain⟨l,xs,y,rfl,rfl,hH,hz,q⟩:=h
 cases rx
 obtain⟨u,rfl,ru⟩:=rv.one
 obtain⟨z,its,n,r,hl,e⟩:=I.lstM hH
 refine call_meets F.slot_list_append ⟨_,e,rfl⟩ F.entry_list_append (F.args_list_append_2 _ _) (PySem.list_append l its.toArray n u (by rw[size_toArray];omega)) ⟨e,?_⟩
 refine⟨.non,_,I.lset (its':=its++[u]) hH e (by simp) (r.append (.cons ru .nil)) ?_,rfl,q⟩
 rw[length_append,length_singleton]
 omega
def rPop:V->List V->Hp->VK->Prop:=λx vs H Q=>∃l xs y,x = .ref l/\vs=[]/\H l=some (.lst xs)/\xs[xs.length-1]?=some y/\Q y (upd H l (.lst xs.dropLast))
theorem Ydc:MtM X "list.pop" rPop:=by
 intro pins s Y H x vs v us Q I rx rv h
 obtain⟨l,xs,y,rfl,rfl,hH,hy,q⟩:=h
 cases rx
 have hus:=rv.zero
 subst hus
 obtain⟨z,its,n,r,hl,e⟩:=I.lstM hH
 obtain⟨u,hu,ru⟩:=r.get hy
 have hy':its.toArray[its.toArray.size-1]?=some u:=by
  show its.toArray[its.length-1]?=some u
  rw[<- Array.getElem?_toList,<- hl]
  exact hu
 refine call_meets F.slot_list_pop ⟨_,e,rfl⟩ F.entry_list_pop (F.args_list_pop_1 _) (MeetsSeq.list_pop_last l its.toArray n u hy' (by rw[size_toArray];omega)) ⟨e,?_⟩
 refine⟨y,_,I.lset (its':=its.dropLast) hH e ?_ r.dropLast ?_,ru,q⟩
 .show its.toArray.eraseIdxIfInBounds (its.toArray.size-1)=its.dropLast.toArray
  rw[size_toArray,List.eraseIdxIfInBounds_toArray,Xv9]
 .rw [List.length_dropLast]
  omega
def Ymm:R2:=λx y H Q=>∃l k xs,x = .ref l/\y = .int k/\H l=some (.lst xs)/\-(2^63)<=k/\k<2^63/\xs.length*k.toNat<=sizeLine/\
 ∀p,H p=none->Q (.ref p) (upd H p (.lst (List.replicate k.toNat xs).flatten))
theorem Yga {α:Type}(xs:List α)(k:Nat):(List.replicate k xs).flatten.length=k*xs.length:=by
 induction k with
 |zero=>simp
 |succ k ih=>rw[replicate_succ,flatten_cons,length_append,ih,succ_mul,Nat.add_comm]
theorem Yix:OpR X (binaryOp .Mult) Ymm:=by
 intro pins s Y H x y v u Q I rx ry h
 obtain⟨l,k,xs,rfl,rfl,hH,h1,h2,hz,q⟩:=h
 cases rx
 obtain⟨t,rfl⟩:=ry
 obtain⟨z,its,n,r,hl,e⟩:=I.lstM hH
 have hlen:its.toArray.size*k.toNat<=sizeLine:=by rw[size_toArray,<- hl];exact hz
 have hcap:¬ its.toArray.size*k.toNat > (2^63-1) / 8:=by
  have:(sizeLine:Nat)<=(2^63-1) / 8:=by decide
  omega
 have hfit:¬ (!Builtin.List.listFitsIndex k)=true:=by
  rw[fitsIndex_both h1 h2]
  exact Bool.false_ne_true
 have hlong:¬ Builtin.List.listTooLong (its.toArray.size*k.toNat)=true:=by
  rw[Xui hlen]
  exact Bool.false_ne_true
 have hnew:List.foldl (λx1 x2=>x1++x2) #[] (List.replicate (if its.toArray.isEmpty=true then 0 else k.toNat) its.toArray)=(List.replicate k.toNat its).flatten.toArray:=by
  have f0:∀m:Nat,List.foldl (λx1 x2=>x1++x2) #[] (List.replicate m its.toArray)=(List.replicate m its).flatten.toArray:=λm=>by
   have:=Xr9 its m []
   rw[List.nil_append]at this
   exact this
  rw[f0]
  cases its with
  |nil=>simp
  |cons a r'=>rw[if_neg (by simp)]
 refine wpAny_binaryOp_repeat_ref (T := "list") (U := "int") (by decide) ⟨_,e,rfl⟩ (λs'=>typeIs_int s' k t) noFill_list_mul F.fills_int_mul F.slot_int_rmul repeat_list F.slot_int_index.lookup
  (call_meets F.slot_int_rmul (typeIs_int s k t) F.entry_int_rmul (F.args_int_rmul_2 _ _) (int___rmul___int_list k t l its.toArray n)
   ⟨e,rfl,⟨_,e,rfl⟩,call_meets F.slot_list_mul ⟨_,e,rfl⟩ F.entry_list_mul (F.args_list_mul_2 _ _) (AutoListH.list___mul___list_int_3 l its.toArray n k t hfit hcap hlong) ⟨e,?_⟩⟩)
 rw[hnew]
 exact⟨.ref _,_,I.lnew (t':=s.toks) (r.rep k.toNat) (by rw[Yga,Nat.mul_comm];exact hz),rfl,q _ I.fresh⟩
end
section
variable {prog:Program}{w:World}{A:Around}{E:Value->Shared->Prop}{s:Shared}
set_option maxRecDepth 100000 in
end
section
variable {X:Cx}
end
end L2
namespace Att
open PySem PySem.W PySem.Calls PyProof.Rows
theorem Xna {P:Params}{h:Heap}:∀(ns:List Int) (vs:List Value),WellAll P h vs (ns.map WData.int)->IntsAre vs ns:=by
 intro ns
 induction ns with
 |nil=>
  intro vs w
  rw[map_nil]at w
  cases w
  exact .nil
 |cons n ns ih=>
  intro vs w
  rw[map_cons]at w
  cases w with
  |cons a b=>
   cases a
   exact .cons _ _ (ih _ b)
theorem Xqp {l:OpenLaw}{n:Nat}(hn:l.most=some n){P:Params}{h:Heap}{args:List WData}{vals:List Value}
  (hpre:l.row.toRowW.claim.pre args=true) (hwl:WellAll P h vals args):
  ∃a vs ns,vals=[Value.ref a]/\args=[WData.list (ns.map WData.int)]/\h.get? a=some {cls:=.type "list",data:=.seq vs.toArray}/\IntsAre vs ns/\ns.length<=n:=by
 have hsh:WShape.hasAll [] args [.list .int]=true:=(pre_splitW hpre).1
 have hc:l.pre.holds [] {args:=args}=true:=(pre_splitW hpre).2
 obtain⟨d,r,rfl,h1,h2⟩:=hasAllW_cons hsh
 obtain rfl:=hasAllW_nil h2
 obtain⟨xs,rfl,h3⟩:=hasW_list h1
 obtain⟨ns,rfl⟩:=items_int h3
 have hlen:ns.length<=n:=by
  unfold OpenLaw.pre at hc
  have h4:(WTm.not (.lt (.lit (.int (n:Int))) (.len (.arg 0)))).holds [] {args:=[.list (ns.map .int)]}=true:=by
   have h4:=(holds_andW hc).1
   rw[hn]at h4
   exact h4
  have h5:=condW_of h4 (w_not (w_lt w_lit (w_len_list (w_arg rfl))))
  rw[length_map]at h5
  refine Nat.le_of_not_lt λq=>?_
  have q':(n:Int)<((ns.length:Nat):Int):=by omega
  first
   | (rw[decide_eq_true q']at h5;exact absurd h5 (by decide))
   | (simp at h5;omega)
 cases hwl with
 |cons w1 w2=>
  cases w2
  cases w1 with
  |list ho hall=>exact⟨_,_,ns,rfl,rfl,ho,Xna ns _ hall,hlen⟩
theorem Xra (l:OpenLaw)(args:List WData):l.row.toRowW.claim.post args (.bool true) args=true:=
 postW_of (r:=l.row.toRowW) (X:=(true==true))
  (show WShape.has [] (.bool true) .bool=true by first |rfl |decide |simp[WShape.has,WShape.arms,WShape.armsAll])
  (show (WTm.eq .res (.lit (.bool true))).value [] {args:=args,res:=some (.bool true),after:=args}=some (.bool (true==true)) from w_eq_bool (w_res rfl) w_lit) rfl
theorem attach_call {l:OpenLaw}{n:Nat}{q:Program}{loose:List Str}{XP:(Str->Option Value)->Heap->Prop}{YP:World->Heap->Prop}{d:DefRec}
  (hn:l.most=some n) (hdf:d.params.defaults=[])
  (call:∀(w:World) (s₀ s₁:Shared) (mg mb:Str->Option Value) (fa:Addr) (o:Obj) (pm cd doc:Value) (a:Addr) (vs:List Value) (ns:List Int),
   Ground q loose [] XP w s₀ mg mb s₁.heap->YP w s₁.heap->
   s₁.heap.get? fa=some o->o.data = .func (docDef d.name d.params d.body d.scope pm cd doc)->s₁.heap.CodeRec cd d.name->mg d.name=some (.ref fa)->
   s₁.heap.get? a=some {cls:=.type "list",data:=.seq vs.toArray}->IntsAre vs ns->ns.length<=n->s₁.gens=#[]->
   codeAny (model l.prog w) callerA (.call (.ref fa) ⟨[.ref a],[]⟩) (λr s'=>r = .ok (.ret (.bool true))/\OldK s₁.heap s'.heap/\s'.os=s₁.os/\AllBare s'.gens) s₁):
  WalkO q loose XP YP l.row.toRowW d [] (λf vs=>PySem.call f vs):=by
 intro w s₀ s₁ mg mb G σ fa o pm cd doc dV kV ho hd hcd hD hmg hg args vals as hpre hlay hrd hwl hlo
 obtain rfl:dV = .none:=Dflts.none hD hdf
 obtain rfl:kV = .none:=Dflts.noKw hD
 obtain⟨a,vs,ns,rfl,rfl,hobj,hints,hlen⟩:=Xqp hn hpre hwl
 refine enter_call (codeAny_mono (call w s₀ s₁ mg mb fa o pm cd doc a vs ns G σ ho (fd_plain hd) hcd hmg hobj hints hlen hg) λr s' hq=>?_)
 obtain⟨rfl,h2,h3,h4⟩:=hq
 exact⟨.inl ⟨.bool true,.bool true,[],rfl,λ_=>rfl,.bool true,Xra l _,λ_=>⟨List.Pairwise.nil,λ_ hm=>(nomatch hm)⟩⟩,h2,h3,h4⟩
section
variable {prog:Program}{w:World}{A:Around}{E:Value->Shared->Prop}{s:Shared}{K:Frag}
end
end Att
namespace L2
open PySem PySem.Spec PyProof.Rows
theorem Xp9:∀{vs:List Value} {ns:List Int},IntsAre vs ns->Xb5 (ns.map V.int) vs
 |_,_,.nil=>.nil
 |_,_,.cons n t h=>.cons ⟨t,rfl⟩ (Xp9 h)
def Yl5 (H:Hp):Prop:=∀b,H b=none∨∃o xs,H b=some (.frz o (.lst xs))
theorem Xun {P:Program}{w:World}{K:Frag}{mg mb:Str->Option Value}{CX:CXT}{k:Nat}{fa a:Addr}{fd:FuncData}{x:Str}{sp:Sp}{s₁:Shared}{vs:List Value}{ns:List Int}
  (KX:K.In s₁.heap) (hns:s₁.heap.Ns mainGlobals mg) (hb:s₁.heap.Ns builtinsNs mb) (hbb:∀x:Str,x ≠ "__name__"->mb x=bootBuiltins x) (hlim:s₁.heap.NoLimit) (hg:s₁.gens=#[])
  (ha:s₁.heap.get? a=some {cls:=.type "list",data:=.seq vs.toArray}) (hi:IntsAre vs ns) (hl:ns.length<=sizeLine) (hr:Room k callerA)
  (F:∀base:Heap,K.In base->base.Ns mainGlobals mg->FnOk P w K mg base CX k fa fd [x] sp) (hbind:∀(s:Shared) (u:Value),BindsTo s fd ⟨[u],[]⟩ [(x,u)])
  (hsp:∀H:Hp,Yl5 H->SqL K H a (ns.map V.int)->sp [.ref a] H (λv _=>v = .bl true) λ_ _ _=>False)
  (hCX:∀H e s',CX [] H s₁ (λ_ _ _=>False) e s'->False):
  codeAny (model P w) callerA (.call (.ref fa) ⟨[.ref a],[]⟩) (λr s'=>r = .ok (.ret (.bool true))/\OldK s₁.heap s'.heap/\s'.os=s₁.os/\AllBare s'.gens) s₁:=by
 have rv:=Xp9 hi
 have lenV:=hi.length
 -- from an abstract heap in which nothing but the script may be tracked
 have core : ∀H:Hp,Yl5 H->SqL K H a (ns.map V.int)->HOk P w H s₁.heap->(∀b,H b≠none->b=a)->(H a≠none->K.lookup a=none)->
   codeAny (model P w) callerA (.call (.ref fa) ⟨[.ref a],[]⟩) (λr s'=>r = .ok (.ret (.bool true))/\OldK s₁.heap s'.heap/\s'.os=s₁.os/\AllBare s'.gens) s₁:=by
  intro H hO hS hok hA hK
  have base_of:∀{b:Addr} {o:Obj},s₁.heap.get? b=some o->H b=none->(Yby s₁.heap H).get? b=some o:=λe n=>Ybx e n
  have noA:∀{b:Addr} {o:Obj} {es:Array DictEntry} {ep:Nat},s₁.heap.get? b=some o->o.data = .dict es ep->H b=none:=λ{b o es ep} e d=>by
   cases q:H b with
   |none=>rfl
   |some u=>
    have e':b=a:=hA b (by rw[q];simp)
    subst e'
    rw[ha]at e;cases e
    have d':Data.seq vs.toArray _=Data.dict es ep:=d
    cases d'
  have nsK:∀{b:Addr} {m:Str->Option Value},s₁.heap.Ns b m->(Yby s₁.heap H).Ns b m:=λ{b m} ⟨o,es,ep,e,d,r⟩=>⟨o,es,ep,base_of e (noA e d),d,r⟩
  have hKb:K.In (Yby s₁.heap H):=λb o e=>base_of (KX b o e) (by
   cases q:H b with
   |none=>rfl
   |some u=>
    have e':b=a:=hA b (by rw[q];simp)
    subst e'
    rw[hK (by rw[q];simp)]at e;cases e)
  have hM:Mod K mg (Yby s₁.heap H):=⟨hKb,nsK hns,⟨mb,nsK hb,hbb⟩,let⟨mc,h1,h2⟩:=hlim;⟨mc,nsK h1,h2⟩⟩
  have e0:Env0 P w K mg (Yby s₁.heap H) callerA [] s₁ H:=⟨rfl,hM,λb o e=>Yfu e,le_of_eq (Xy1 _ _),trivial,λb hb=>absurd (show b∈([]:List Addr) from hb) (by simp),hok,.of_eq hg⟩
  refine codeAny_mono ((F _ hKb (nsK hns)).run callerA [] s₁ H ⟨[.ref a],[]⟩ [.ref a] [.ref a] _ _ hr e0 (hbind s₁ (.ref a)) (.cons rfl .nil) (hsp H hO hS)) λr s' h=>?_
  cases r with
  |error e=>exact (hCX H e s' h).elim
  |ok fl =>
   cases fl with
   |next=>exact False.elim h
   |brk=>exact False.elim h
   |cont=>exact False.elim h
   |ret u=>
    obtain⟨v,H',os,bare,un,hok',r',q⟩:=h
    have q':v = .bl true:=q
    subst q'
    obtain rfl:u=Value.bool true:=r'
    refine⟨rfl,OldK.of_keep λb o e=>?_,os,bare⟩
    cases q:H b with
    |none=>exact un.keep b o e q (by intro z;exact absurd (show b∈([]:List Addr) from z) (by simp)) (by simp)
    |some u=>
     rcases hO b with z | ⟨ob,xs,z⟩
     .rw [q]at z;cases z
     .have z2:=un.frzs b ob _ z
      obtain⟨e1,_⟩:=hok b _ z
      obtain⟨e2,_⟩:=hok' b _ z2
      rw[e]at e1;cases e1
      exact e2
 cases hk:K.lookup a with
 |some o=>
  -- the script is one of the module's own objects
  have e:=KX a o hk
  rw[ha]at e
  cases e
  refine core (λ_=>none) (λ_=>.inl rfl) (.inr ⟨_,vs.toArray,_,hk,rfl,rfl,rfl,by rw[size_toArray,lenV];exact hl,by simpa using rv⟩) (λb u z=>by have z':(none:Option HO)=some u:=z;cases z') (λb z=>absurd rfl z) λz=>absurd rfl z
 |none=>
  refine core (λb=>if b=a then some (.frz {cls:=.type "list",data:=.seq vs.toArray} (.lst (ns.map V.int))) else none) (λb=>?_) (.inl (.inr ⟨{cls:=.type "list",data:=.seq vs.toArray},if_pos rfl⟩)) (λb u z=>?_) (λb z=>?_) λ_=>hk
  .by_cases hb:b=a
   .exact .inr ⟨_,_,if_pos hb⟩
   .exact .inl (if_neg hb)
  .by_cases hb:b=a
   .have z':=(if_pos hb).symm.trans z
    cases z'
    subst hb
    exact⟨ha,by rw[length_map];exact hl,vs,_,rv,ha⟩
   .have z':=(if_neg hb).symm.trans z
    cases z'
  .by_cases hb:b=a
   .exact hb
   .exact absurd (if_neg hb) z
theorem walk_of {l:PySem.W.OpenLaw}{n k:Nat}{q:Program}{loose:List Str}{XP:(Str->Option Value)->Heap->Prop}{YP:World->Heap->Prop}{d:DefRec}{K:Params->Frag}{CX:World->CXT}{sp:World->Sp}{x:Str}
  (hn:l.most=some n) (hn2:n<=sizeLine) (hdf:d.params.defaults=[]) (hr:Room k callerA)
  (hY:∀(w:World) (h:Heap),YP w h->(K w.params).In h)
  (F:∀(w:World) (mg:Str->Option Value) (fa:Addr) (h:Heap),(K w.params).In h->h.Ns mainGlobals mg->mg d.name=some (.ref fa)->
   ∃fd:FuncData,(∀(s:Shared) (u:Value),BindsTo s fd ⟨[u],[]⟩ [(x,u)])/\
    ∀base:Heap,(K w.params).In base->base.Ns mainGlobals mg->FnOk l.prog w (K w.params) mg base (CX w) k fa fd [x] (sp w))
  (hsp:∀(w:World) (H:Hp) (a:Addr) (ns:List Int),ns.length<=n->Yl5 H->SqL (K w.params) H a (ns.map V.int)->sp w [.ref a] H (λv _=>v = .bl true) λ_ _ _=>False)
  (hCX:∀(w:World) (H:Hp) (s:Shared) (e:Value) (s':Shared),CX w [] H s (λ_ _ _=>False) e s'->False):
  PySem.W.WalkO q loose XP YP l.row.toRowW d [] (λf vs=>PySem.call f vs):=by
 refine Att.attach_call hn hdf λw s₀ s₁ mg mb fa o pm cd doc a vs ns G σ ho hd hcd hmg hobj hints hlen hg=>?_
 have KX:=hY w _ σ
 obtain⟨fd,hb,hF⟩:=F w mg fa _ KX G.T.g hmg
 exact Xun KX G.T.g G.T.b G.T.builtins G.T.nolimit hg hobj hints (le_trans hlen hn2) hr hF hb (λH hO hS=>hsp w H a ns hlen hO hS) λH e s'=>hCX w H s₁ e s'
def Xhb (s:Stmt)(j:Nat):Stmt:=match s with
 | .ClassDef _ _ _ body _ _ _ _ _ _ _=>body.getD j (.Pass ⟨0,0,0,0⟩)
 |_=>.Pass ⟨0,0,0,0⟩
def Xar (s:Stmt):Arguments:=match s with
 | .FunctionDef _ a _ _ _ _ _ _ _ _=>a
 |_=>{posonlyargs:=[],args:=[],vararg:=none,kwonlyargs:=[],kw_defaults:=[],kwarg:=none,defaults:=[]}
def Xan (s:Stmt):List Stmt:=match s with
 | .FunctionDef _ _ b _ _ _ _ _ _ _=>b
 |_=>[]
def Xac (s:Stmt):Scope:=match s with
 | .FunctionDef _ _ _ _ _ _ sc _ _ _=>sc
 |_=>{kind:=.function,names:=[],isGenerator:=false,isCoroutine:=false}
abbrev CX0:CXT:=λ_ _ _ _ _ _=>False
abbrev E0:XK:=λ_ _ _=>False
theorem Xx9 {X:Cx}:Xnp CX0 X E0:=λ_ _ _ _ _ _ _ h=>h.elim
structure Fun (K:Frag) (x qual:Str) (st:Stmt) (f:Addr) (fd:FuncData):Prop where
 ex:∃(oc:Value) (od:Option Addr) (kV doc pm:Value) (an:Option Addr) (cdv ct:Value) (osl:Array (Option Value)),
  fd=fnOf x qual (Xar st) (Xan st) (Xac st) .none kV doc pm an cdv ct/\K.lookup f=some ⟨oc,od,.func fd,osl⟩/\codeIn K cdv qual=true
 kp:keepIn K (.ref f)=true
section
variable {P:Program}{w:World}{K:Frag}{mg:Str->Option Value}{base:Heap}
theorem Fun.ok {x qual:Str}{st:Stmt}{f:Addr}{fd:FuncData}{N ps:List Str}{k:Nat}{sp:Sp}(F:Fun K x qual st f fd)(S:FnScope N ps (Xac st))(len:∀vs H Q E,sp vs H Q E->vs.length=ps.length)
  (hbody:∀(cdv:Value) (A:Around) (outer:List Env) (s:Shared) (H:Hp) (vs:List V) (Q:VK) (E:XK),Room k (A.deeper (envOfC qual (Xac st) s.heap.objs.size f cdv))->sp vs H Q E->
   ∃t,PSs (Xn6 CX0 P w K mg base N qual (Xac st) f cdv A outer s H E).nox (Xan st) t/\t {nx:=λ_ H'=>Q .non H',rt:=Q} (Xe4 N vs) H):FnOk P w K mg base CX0 (k+1) f fd ps sp:=by
 obtain⟨oc,od,kV,doc,pm,an,cdv,ct,osl,rfl,lk,hcd⟩:=F.ex
 refine Ygq lk hcd S len λA outer s H vs Q E hr hsp=>?_
 obtain⟨t,h,q⟩:=hbody cdv A outer s H vs Q E hr hsp
 exact⟨t,h.nox,q⟩
theorem Fun.binds {x qual:Str}{st:Stmt}{f:Addr}{fd:FuncData}{ps:List Str}(F:Fun K x qual st f fd)
  (h:∀(kV doc pm:Value) (an:Option Addr) (cdv ct:Value) (us:List Value),us.length=ps.length->bindArgs (fnOf x qual (Xar st) (Xan st) (Xac st) .none kV doc pm an cdv ct) ⟨us,[]⟩=pure (ps.zip us)):Xjv K fd ps []:=by
 obtain⟨oc,od,kV,doc,pm,an,cdv,ct,osl,rfl,lk,hcd⟩:=F.ex
 exact .all (h kV doc pm an cdv ct)
theorem Xa3 {x qual:Str}{st:Stmt}{f:Addr}{oc:Value}{od an:Option Addr}{osl:Array (Option Value)}{kV doc pm cdv ct:Value}(l:K.lookup f=some ⟨oc,od,.func (fnOf x qual (Xar st) (Xan st) (Xac st) .none kV doc pm an cdv ct),osl⟩)
  (c:codeIn K cdv qual=true) (k:keepIn K (.ref f)=true):Fun K x qual st f (fnOf x qual (Xar st) (Xan st) (Xac st) .none kV doc pm an cdv ct):=⟨⟨oc,od,kV,doc,pm,an,cdv,ct,osl,rfl,l,c⟩,k⟩
end
section
variable {X:Cx}
theorem pv (i:Nat){x:Str}{pos:Pos}(hN:X.N[i]?=some x:=by rfl)(hv:Vis X.env.scope x:=by first |exact Or.inl rfl |exact Or.inr (Or.inl rfl) |exact Or.inr (Or.inr rfl))(hd:(x==("__debug__":Str))=false:=by decide)
  (hcd:(x==("__classdict__":Str))=false:=by decide):PE X (.Name x pos) (Xnr i):=Yir hN hv hd hcd
end
theorem Ynp {A B:Prop}(h:B):if false=true then A else B:=by
 rw[if_neg Bool.false_ne_true]
 exact h
theorem Ydj {A B:Prop}(h:A):if true=true then A else B:=by
 rw[if_pos rfl]
 exact h
def Xbi (H H':Hp):Prop:=∀b o,H b=some o->H' b=some o
theorem Xbi.refl (H:Hp):Xbi H H:=λ_ _ h=>h
theorem Xbi.trans {H H1 H2:Hp}(a:Xbi H H1)(b:Xbi H1 H2):Xbi H H2:=λc o h=>b c o (a c o h)
theorem Xbi.free {H H':Hp}(e:Xbi H H'){l:Addr}(h:H' l=Option.none):H l=Option.none:=by
 cases q:H l with
 |none=>rfl
 |some o=>
  rw[e l o q]at h
  cases h
theorem Xbi.seq {K:Frag}{H H':Hp}{a:Addr}{xs:List V}(e:Xbi H H')(h:SqL K H a xs):SqL K H' a xs:=by
 rcases h with (h | ⟨o,h⟩) |h
 .exact .inl (.inl (e _ _ h))
 .exact .inl (.inr ⟨o,e _ _ h⟩)
 .exact .inr h
end L2
set_option maxHeartbeats 4000000
namespace L2
open PySem PySem.Spec PyProof.Rows
structure DefAt (K:Frag) (mg:Str->Option Value) (x:Str) (st:Stmt) (f:Addr) (fd:FuncData):Prop where
 fn:Fun K x x st f fd
 here:mg x=some (.ref f)
structure Cal (P:Program) (w:World) (K:Frag) (mg:Str->Option Value) (base:Heap) (x:Str) (k:Nat) (ps:List Str) (sp:Sp):Prop where
 ex:∃f fd,FnOk P w K mg base CX0 k f fd ps sp/\mg x=some (.ref f)/\keepIn K (.ref f)=true/\Xjv K fd ps []
theorem Cal.of {P:Program}{w:World}{K:Frag}{mg:Str->Option Value}{base:Heap}{x:Str}{st:Stmt}{f:Addr}{fd:FuncData}{N ps:List Str}{k:Nat}{sp:Sp}(D:DefAt K mg x st f fd)(S:FnScope N ps (Xac st))
  (hb:∀(kV doc pm:Value) (an:Option Addr) (cdv ct:Value) (us:List Value),us.length=ps.length->bindArgs (fnOf x x (Xar st) (Xan st) (Xac st) .none kV doc pm an cdv ct) ⟨us,[]⟩=pure (ps.zip us))
  (len:∀vs H Q E,sp vs H Q E->vs.length=ps.length)
  (hbody:∀(cdv:Value) (A:Around) (outer:List Env) (s:Shared) (H:Hp) (vs:List V) (Q:VK) (E:XK),Room k (A.deeper (envOfC x (Xac st) s.heap.objs.size f cdv))->sp vs H Q E->
   ∃t,PSs (Xn6 CX0 P w K mg base N x (Xac st) f cdv A outer s H E).nox (Xan st) t/\t {nx:=λ_ H'=>Q .non H',rt:=Q} (Xe4 N vs) H):Cal P w K mg base x (k+1) ps sp:=
 ⟨f,fd,D.fn.ok S len hbody,D.here,D.fn.kp,D.fn.binds hb⟩
theorem Xa0 {X:Cx}{x:Str}{k:Nat}{ps:List Str}{sp:Sp}{e:Expr}{es:List Expr}{t:TA}{p pos:Pos}(C:Cal X.prog X.w X.K X.mg X.base x k ps sp)(hr:Room k X.A)(hg:Gl X x)(ha:PA X (e::es) t)
  (hdb:(x==("__debug__":Str))=false:=by decide) (he:starEach (e::es) X.env=(false,eval e X.env)::starEach es X.env:=by rfl) (hpl:(backTo pos (starEach es X.env)).any (·.1)=false:=by rfl):
  PE X (.Call (.Name x p) (e::es) [] pos) (Xww sp [] E0 t):=by
 obtain⟨f,fd,F,hm,hk,hb⟩:=C.ex
 exact Yfn F hr hg hm hk hb .nil Xx9 ha hdb he hpl
def spL (n:Nat)(R:List V->Hp->VK->Prop):Sp:=λvs H Q _=>vs.length=n/\R vs H Q
structure Blt (mg:Str->Option Value):Prop where
 len:mg "len"=none
 range:mg "range"=none
 max:mg "max"=none
 min:mg "min"=none
 isinstance:mg "isinstance"=none
 int:mg "int"=none
 bool:mg "bool"=none
 tuple:mg "tuple"=none
 list:mg "list"=none
 all:mg "all"=none
 zip:mg "zip"=none
 reversed:mg "reversed"=none
theorem Xbi.new {H:Hp}{p:Addr}{o:HO}(h:H p=none):Xbi H (upd H p o):=λb u e=>by rw[Xbv (Xfi e h)];exact e
section
variable {X:Cx}{e:Expr}{es:List Expr}{te:TE}{t:TA}{pos:Pos}
def Yhk (t:TA):TE:=λY H Q=>t Y H λxs H1=>xs.length<=sizeLine/\∀p H',H1 p=none->Xbi H1 H'->H' p=some (.tup xs)->Q (.ref p) H'
def Yhs (t:TA):TE:=λY H Q=>t Y H λxs H1=>xs.length<=sizeLine/\∀p H',H1 p=none->Xbi H1 H'->H' p=some (.lst xs)->Q (.ref p) H'
theorem Xcc {x1}(h:PA X es t):PE X (.Tuple es x1 pos) (Yhk t):=by
 intro pins s Y H Q I hq
 refine wpAny_Tuple_spliced (thn (h pos pins s Y H _ I hq) λus s1 ⟨xs,H1,I1,r,z,q⟩=>⟨by rw[<- r.length];exact z,?_⟩)
 have hf:H1 s1.heap.objs.size=none:=I1.hok.fresh (Nat.le_refl _)
 refine⟨.ref s1.heap.objs.size,upd H1 s1.heap.objs.size (.tup xs),I1.laid (t':=s1.toks) (λb u e=>get?_push_of_some _ e) (Nat.le_refl _) ?_,rfl,q _ _ hf (Xbi.new hf) Xay⟩
 exact⟨z,us,r,⟨_,get?_push_size _ rfl,rfl,_,rfl⟩⟩
theorem Xc0 (h:PA X es t):PE X (.List es pos) (Yhs t):=by
 intro pins s Y H Q I hq
 refine wpAny_List_spliced (thn (h pos pins s Y H _ I hq) λus s1 ⟨xs,H1,I1,r,z,q⟩=>⟨by rw[<- r.length];exact z,?_⟩)
 have hf:H1 s1.heap.objs.size=none:=I1.hok.fresh (Nat.le_refl _)
 refine⟨.ref s1.heap.objs.size,upd H1 s1.heap.objs.size (.lst xs),I1.laid (t':=s1.toks) (λb u e=>get?_push_of_some _ e) (Nat.le_refl _) ?_,rfl,q _ _ hf (Xbi.new hf) Xay⟩
 exact⟨z,us,0,r,get?_push_size _ rfl⟩
end
theorem Ydk {c:Bool}{A B:Prop}(hc:c=false)(h:B):if c=true then A else B:=by
 rw[hc];exact Ynp h
def Yl6 (lo c:Int)(n:Nat):It:=⟨λi _=>i<n,λi H x H'=>H'=H/\x = .int (lo+i*c),λi _=>n<=i⟩
theorem Xsp {P:Program}{w:World}{K:Frag}{tg:Expr}(it:Addr)(lo c:Int)(n:Nat):Turn P w K tg (Yl6 lo c n) [it] it (λi h=>IsRangeIter h it (lo+(i:Nat)*c) ((n:Int)-(i:Nat)) c) where
 mem:=by simp
 obj := λi h st b hb=>by
  have e:b=it:=by simpa using hb
  subst e
  exact⟨_,st,λv z=>by
   have z':Data.fields _=Data.cell v:=z
   cases z'⟩
 keep:=λi h h' st k=>k it (by simp) _ st
 item:=by
  kj_on
  obtain⟨f0,f1,f2,f3,f4,f5⟩:=hf it (by simp)
  have W:=Walks.range (prog:=X.prog) (w:=X.w) (I.ok.hd hc) it lo c n
  refine W.item i s _ _ hg st λv h' tk hv st' kk=>?_
  obtain⟨t,rfl⟩:=hv
  have I1:Inv X pins Y H {s with heap:=h',toks:=tk}:=I.turned (λb o hb e=>kk b o (by simpa using hb) e) f0 f1 f3 f4 f5
  exact⟨_,rfl,Xtb (s:={s with heap:=h',toks:=tk}) (n := "range_iterator") st' rfl rfl (by decide) ⟨.int (lo+i*c),H,I1,⟨t,rfl⟩,⟨rfl,rfl⟩,st',λb hb=>(hf b hb).1⟩⟩
 done:=by
  kj_on
  obtain⟨f0,f1,f2,f3,f4,f5⟩:=hf it (by simp)
  exact wpAny_pyNext_range_end (I.ok.hd hc) st (by have:n<=i:=hg;omega) λh' eb=>⟨rfl,I.turned (t':=s.toks) (λb o hb e=>eb b o hb e) f0 f1 f3 f4 f5⟩
 self:=λ_ _ _ _ _ st h=>wpAny_pyIter_rangeiter st h
theorem Xva {a b c:Int}(ha : -(2^61)<=a)(ha':a<2^61)(hb : -(2^61)<=b)(hb':b<2^61)(hc:0<c)(hc':c<2^61):Builtin.Range.small a b c=true:=by
 have h1:0<=Builtin.Range.rangeSize a b c/\Builtin.Range.rangeSize a b c<=2^62:=by
  unfold Builtin.Range.rangeSize
  rw[if_pos (show c > 0 from hc)]
  split
  .have e1:(b-a-1) / c<=b-a-1:=Int.ediv_le_self _ (by omega)
   have e2:0<=(b-a-1) / c:=ediv_nonneg (by omega) (by omega)
   omega
  .omega
 unfold Builtin.Range.small
 generalize Builtin.Range.rangeSize a b c=z at h1
 simp only[Builtin.Range.rangeFitsLong,and_eq_true,or_eq_true,decide_eq_true_eq,beq_iff_eq,show c > 0 from hc,if_true]
 omega
section
variable {X:Cx}{tg:Expr}
def Xht (i j c:Int):Nat:=(Builtin.Range.rangeSize i j c).toNat
def Yjr (ta:TA):TI:=λY H R=>ta Y H λvs H1=>∃i j c:Int,vs=[.int i,.int j,.int c]/\(-(2^61)<=i/\i<2^61/\-(2^61)<=j/\j<2^61/\0<c/\c<2^29)/\R (Yl6 i c (Xht i j c)) H1
theorem Xib {a b d:Expr}{ta:TA}{p pos:Pos}(hg:Gl X "range")(hm:X.mg "range"=none)(ha:PA X [a,b,d] ta)(hs:starEach [a,b,d] X.env=(false,eval a X.env)::starEach [b,d] X.env:=by rfl)
  (hpl:(backTo pos (starEach [b,d] X.env)).any (·.1)=false:=by rfl):
  PI X tg (.Call (.Name "range" p) [a,b,d] [] pos) (Yjr ta):=by
 intro pins s Y H R I h
 refine Call_ (Xkf I hg hm boot_range (PyProof.Rows.callWith_type1 (thn (ha pos pins s Y H _ I h) λus s1 ⟨vs,H1,I1,r1,q1⟩=>?_) hs hpl))
 obtain⟨i,j,c,e,⟨q1,q2,q3,q4,q5,q6⟩,q⟩:=q1
 subst e
 cases r1 with
 |cons r rr =>
  cases rr with
  |cons r' rr=>
   cases rr with
   |cons r'' rr=>
    cases rr
    obtain⟨t,rfl⟩:=r
    obtain⟨t',rfl⟩:=r'
    obtain⟨t'',rfl⟩:=r''
    refine PySem.call_range_3 (by omega) ?_ (.inl (PyProof.noPylong_small (by omega)))
    refine wpAny_pyIter_range (IsRange.new ..) (Xva q1 q2 q3 q4 q5 (by omega)) ?_
    have I2:Inv X pins Y H1 {s1 with heap:=s1.heap.push {cls:=.type "range",data:=.fields #[.int i t,.int j t',.int c t'']},toks:=s1.toks}:=I1.kept λb o e=>get?_push_of_some _ e
    refine⟨(s1.heap.push {cls:=.type "range",data:=.fields #[.int i t,.int j t',.int c t'']}).objs.size,[(s1.heap.push {cls:=.type "range",data:=.fields #[.int i t,.int j t',.int c t'']}).objs.size],_,_,H1,rfl,
     I2.kept (t':=s1.toks) λb o e=>get?_push_of_some _ e,Xsp _ i c (Xht i j c),?_,λb hb=>?_,q⟩
    .have e1:i+((0:Nat):Int)*c=i:=by simp
     have e2:((Xht i j c:Nat):Int)-((0:Nat):Int)=Builtin.Range.rangeSize i j c:=by
      have z:0<=Builtin.Range.rangeSize i j c:=by
       unfold Builtin.Range.rangeSize
       rw[if_pos (show c > 0 from q5)]
       split
       .have e2:0<=(j-i-1) / c:=ediv_nonneg (by omega) (by omega)
        omega
       .omega
      unfold Xht;omega
     show IsRangeIter _ _ (i+((0:Nat):Int)*c) (((Xht i j c:Nat):Int)-((0:Nat):Int)) c
     rw[e1,e2]
     exact get?_push_size _ rfl
    .have e:b=(s1.heap.push {cls:=.type "range",data:=.fields #[.int i t,.int j t',.int c t'']}).objs.size:=by simpa using hb
     subst e
     exact I2.fpOk (Nat.le_refl _) (I2.hok.fresh (Nat.le_refl _))
end
section
variable {X:Cx}
theorem Xb5.at {xs:List V}{its:List Value}(r:Xb5 xs its){j:Nat}(h:j<its.toArray.size):∃x,xs[j]?=some x/\Xeb x its.toArray[j]:=by
 have hl:=r.length
 have hj:j<xs.length:=by rw[size_toArray]at h;omega
 obtain⟨u,hu,ru⟩:=r.get (i:=j) (x:=xs[j]) (by simp[hj])
 refine⟨xs[j],by simp[hj],?_⟩
 have e:its.toArray[j]=u:=by
  have:its[j]?=some its.toArray[j]:=by simp at h ⊢<;>try exact h
  rw[this]at hu;exact Option.some.inj hu
 rw[e];exact ru
end
def Xii (scope:Scope)(env:Env):List (Str×Addr):=((scope.names.filter λx=>x.2 == .free).map λx=>(x.1,(env.cells.lookup x.1).getD 0)).reverse
theorem Xhf (env:Env):∀(l:List (Str×NameKind)) (acc:List (Str×Addr)),(∀x∈l,x.2 = .free->∃c,env.cells.lookup x.1=some c)->
  (forIn l acc (λ(x:Str×NameKind) (r:List (Str×Addr))=>(match x with | (name,kind)=>if (kind==NameKind.free)=true then do let a <- cellOf env name;pure (ForInStep.yield ((name,a)::r)) else pure (ForInStep.yield r):Sem (ForInStep (List (Str×Addr)))))) =
   (pure (((l.filter λx=>x.2 == .free).map λx=>(x.1,(env.cells.lookup x.1).getD 0)).reverse++acc):Sem (List (Str×Addr)))
 | [],acc,_=>by simp
 | (n,k)::l,acc,h=>by
  rw[forIn_cons]
  by_cases hk:k = .free
  .subst hk
   obtain⟨c,hc⟩:=h (n,.free) mem_cons_self rfl
   have hc':env.cells.lookup n=some c:=hc
   have ih:=Xhf env l ((n,c)::acc) λx hx=>h x (mem_cons_of_mem _ hx)
   have e:cellOf env n=pure c:=by unfold cellOf;rw[hc']
   simp only[beq_self_eq_true,if_true,e,pure_bind]
   rw[ih]
   simp[hc']
  .have hb:(k==NameKind.free)=false:=by simpa using hk
   have ih:=Xhf env l acc λx hx=>h x (mem_cons_of_mem _ hx)
   simp only[hb,false_eq_true,if_false,pure_bind]
   rw[ih]
   simp[hb]
theorem Xij {scope:Scope}{env:Env}(h:∀x∈scope.names,x.2 = .free->∃c,env.cells.lookup x.1=some c):closureFor scope env=pure (Xii scope env):=by
 have:=Xhf env scope.names [] h
 unfold closureFor Xii
 rw[append_nil]at this
 simp only[bind_pure]
 exact this
theorem Xih {scope:Scope}{env:Env}(x:Str):(Xii scope env).lookup x=if (scope.names.any λy=>y.1==x && y.2 == .free) then some ((env.cells.lookup x).getD 0) else none:=by
 have key:∀(l:List (Str×NameKind)),((l.filter λx=>x.2 == .free).map λx=>(x.1,(env.cells.lookup x.1).getD 0)).lookup x=if (l.any λy=>y.1==x && y.2 == .free) then some ((env.cells.lookup x).getD 0) else none:=by
  intro l
  induction l with
  |nil=>rfl
  |cons p l ih=>
   obtain⟨n,k⟩:=p
   by_cases hk:(k==NameKind.free)=true
   .rw [filter_cons,if_pos (show ((n,k).2==NameKind.free)=true from hk),map_cons,lookup_cons,ih,List.any_cons]
    by_cases hn:n=x
    .subst hn;simp[hk]
    .have h1:(x==n)=false:=by simpa using λe=>hn e.symm
     have h2:(n==x)=false:=by simpa using hn
     simp[h1,h2]
   .have hk':(k==NameKind.free)=false:=by simpa using hk
    rw[filter_cons,if_neg (show ¬ ((n,k).2==NameKind.free)=true from hk),ih,List.any_cons]
    simp[hk']
 have rev:(Xii scope env)=((scope.names.reverse.filter λx=>x.2 == .free).map λx=>(x.1,(env.cells.lookup x.1).getD 0)):=by
  unfold Xii
  rw[<- map_reverse,<- List.filter_reverse]
 rw[rev,key,List.any_reverse]
theorem Xlo {prog:Program}{w:World}{A:Around}{R:Result->Shared->Prop}{s:Shared}{elt target iter:Expr}{scope:Scope}{pos:Pos}{it acc:Value}{env:Env}(I:Nat->Shared->Prop)
  (turn : ∀n s,I n s->wpAny (model prog w) A (pyNext it) (λr s₁=>match r with
   |none=>R (.ok .next) s₁
   |some v=>wpAny (model prog w) A (letOwnedTupleGo target it v) (λ_ s₂=>wpAny (model prog w) A (assign target env v) (λ_ s₃=>wpAny (model prog w) A (eval elt env) (λx s₄=>
     wpAny (model prog w) A (call (.builtin "list.append") [acc,x]) (λ_ s₅=>∃m,m<n/\I m s₅) (λ_ _=>False) s₄) (λ_ _=>False) s₃) (λ_ _=>False) s₂) (λ_ _=>False) s₁) (λ_ _=>False) s)
  (n:Nat) (h:I n s):codeAny (model prog w) A (.compLoop (.ListComp elt [⟨target,iter,[],0⟩] scope pos) 0 it acc env) R s:=by
 refine codeAny_loop rfl I (λn s hI=>?_) n h
 show wpAny _ A ((compTurn (.ListComp elt [⟨target,iter,[],0⟩] scope pos) 0 it acc env).onRaise (λx=>do noteFrame x env;theTreesLotGoes x)) _ _ s
 refine wpAny_noted ?_
 rw[compTurn_list1]
 refine wpAny_bind (wpAny_standAt (wpAny_bind (wpAny_mono (turn n s hI) (λr s₁ h₁=>?_) λ_ _ f=>f.elim)))
 cases r with
 |none=>exact wpAny_pure h₁
 |some v=>
  refine wpAny_bind (wpAny_mono h₁ (λ_ s₂ h₂=>?_) λ_ _ f=>f.elim)
  exact wpAny_bind (wpAny_mono h₂ (λ_ s₃ h₃=>wpAny_bind (wpAny_bind (wpAny_mono h₃ (λx s₄ h₄=>wpAny_bind (wpAny_mono h₄ (λ_ s₅ h₅=>wpAny_pure (wpAny_pure ⟨rfl,h₅⟩)) λ_ _ f=>f.elim)) λ_ _ f=>f.elim))) λ_ _ f=>f.elim)
theorem Xex {scope:Scope}{env:Env}(x:Str):(relabel scope env).names.lookup x=(scope.names.lookup x).map λk=>if (k==NameKind.free && env.scope.kind == .function && env.kindOf x==some .cell)=true then NameKind.cell else k:=by
 have key:∀l:List (Str×NameKind),(l.map λ(n,k)=>if (k==NameKind.free && env.scope.kind == .function && env.kindOf n==some .cell) then (n,NameKind.cell) else (n,k)).lookup x =
   (l.lookup x).map λk=>if (k==NameKind.free && env.scope.kind == .function && env.kindOf x==some .cell)=true then NameKind.cell else k:=by
  intro l
  induction l with
  |nil=>rfl
  |cons p l ih=>
   obtain⟨n,k⟩:=p
   rw[map_cons]
   by_cases hn:x=n
   .subst hn
    by_cases hc:(k==NameKind.free && env.scope.kind == .function && env.kindOf x==some .cell)=true
    .simp only[hc,if_true,lookup_cons,beq_self_eq_true,map_some]
    .simp only[if_neg hc,lookup_cons,beq_self_eq_true,map_some]
   .have hb:(x==n)=false:=by simpa using hn
    by_cases hc:(k==NameKind.free && env.scope.kind == .function && env.kindOf n==some .cell)=true
    .simp only[hc,if_true,lookup_cons,hb];exact ih
    .simp only[if_neg hc,lookup_cons,hb];exact ih
 exact key scope.names
def Xlv (ix:List (Option Nat))(Y:St):St:=ix.map λo=>o.bind λi=>(Y[i]?).join
def Xb2 (X:Cx)(scope:Scope):List Str->List (Option Nat)->Prop
 | [],[]=>True
 |_::N,none::ix=>Xb2 X scope N ix
 |x::N,some i::ix=>(X.N[i]?=some x/\scope.names.lookup x=some .free/\(X.env.kindOf x=some .cell∨X.env.kindOf x=some .free))/\Xb2 X scope N ix
 |_,_=>False
theorem Xb2.get {X:Cx}{scope:Scope}:∀{N:List Str} {ix:List (Option Nat)},Xb2 X scope N ix->N.length=ix.length/\∀(j i:Nat),ix[j]?=some (some i)->
  ∃x,N[j]?=some x/\X.N[i]?=some x/\scope.names.lookup x=some .free/\(X.env.kindOf x=some .cell∨X.env.kindOf x=some .free)
 | [],[],_=>⟨rfl,λj i h=>by simp at h⟩
 |x::N,none::ix,h=>by
  obtain⟨h1,h2⟩:=Xb2.get (show Xb2 X scope N ix from h)
  refine⟨by simp[h1],λj i e=>?_⟩
  cases j with
  |zero=>simp at e
  |succ j=>simpa using h2 j i (by simpa using e)
 |x :: N,some i'::ix,h=>by
  obtain⟨h0,h⟩:=(show _/\Xb2 X scope N ix from h)
  obtain⟨h1,h2⟩:=Xb2.get h
  refine⟨by simp[h1],λj i e=>?_⟩
  cases j with
  |zero=>
   simp at e
   subst e
   exact⟨x,by simp,h0⟩
  |succ j=>simpa using h2 j i (by simpa using e)
 | [],_::_,h=>h.elim
 |_::_,[],h=>by cases h
structure BlkScope (outer scope:Scope):Prop where
 kind:scope.kind = .function
 cell:∀y∈scope.names,y.2≠.cell
 free:∀y∈scope.names,y.2 = .free->outer.names.lookup y.1=some .cell∨outer.names.lookup y.1=some .free
 names:∀y∈scope.names,y.2 = .local->scope.names.lookup y.1=some .local
abbrev Cx.blk (X:Cx)(scope:Scope)(N:List Str)(fp:List Addr)(s:Shared)(H:Hp):Cx:=
 {X with N:=N,s₀:=s,H₀:=H,env:=compEnvC scope (Xii scope X.env) s.heap.objs.size X.env,outer:=X.stack,ex:=fp,fn:=λ_=>false,pn:=[],xe:=λ_ _=>False}
section
variable {X:Cx}{pins:List (Addr×Obj)}{Y:St}{H:Hp}{s:Shared}{scope:Scope}{N:List Str}{ix:List (Option Nat)}{fp:List Addr}
theorem Xiw (ok:X.Ok)(S:BlkScope X.env.scope scope){x:Str}{c:Addr}(h:(Xii scope X.env).lookup x=some c):X.env.cells.lookup x=some c:=by
 rw[Xih]at h
 split at h
 .rename_i ha
  obtain⟨y,hy,e⟩:=any_eq_true.mp ha
  rw[and_eq_true,beq_iff_eq,beq_iff_eq]at e
  obtain⟨e1,e2⟩:=e
  subst e1
  obtain⟨c',hc'⟩:=ok.has y.1 (S.free y hy e2)
  rw[hc']at h ⊢
  exact h
 .cases h
theorem Xl3 (ok:X.Ok){x:Str}(h:scope.names.lookup x=some .free)(hk:X.env.kindOf x=some .cell∨X.env.kindOf x=some .free):∃c,(Xii scope X.env).lookup x=some c/\X.env.cells.lookup x=some c:=by
 obtain⟨c,hc⟩:=ok.has x hk
 refine⟨c,?_,hc⟩
 rw[Xih,if_pos,hc]
 .rfl
 .exact any_eq_true.mpr ⟨(x,.free),PySem.mem_of_lookup h,by simp⟩
theorem Inv.blkOk (I:Inv X pins Y H s)(S:BlkScope X.env.scope scope)(hf:∀b∈fp,Xn9 X pins H b)(hlt:∀b∈fp,b<s.heap.objs.size):(X.blk scope N fp s H).Ok where
 mod:=I.ok.mod
 kind:=S.kind
 glob:=I.ok.glob
 blt:=I.ok.blt
 above:=Nat.le_refl _
 inj:=λx y c h1 h2=>I.ok.inj x y c (Xiw I.ok S h1) (Xiw I.ok S h2)
 has := λx hx=>by
  have hx':(relabel scope X.env).names.lookup x=some .cell∨(relabel scope X.env).names.lookup x=some .free:=hx
  rw[Xex]at hx'
  cases e:scope.names.lookup x with
  |none=>rw[e]at hx';simp at hx'
  |some k=>
   have hm:=PySem.mem_of_lookup e
   have hk:k = .free:=by
    by_cases hk:k = .free
    .exact hk
    .exfalso
     have hb:(k==NameKind.free)=false:=by simpa using hk
     have hc:k≠.cell:=S.cell _ hm
     have e2:(if (k==NameKind.free && X.env.scope.kind == .function && X.env.kindOf x==some .cell)=true then NameKind.cell else k)=k:=if_neg (by rw[hb,Bool.false_and,Bool.false_and];exact Bool.false_ne_true)
     rw[e,map_some,e2]at hx'
     rcases hx' with z |z
     .exact hc (Option.some.inj z)
     .exact hk (Option.some.inj z)
   subst hk
   obtain⟨c,h1,_⟩:=Xl3 I.ok e (S.free _ hm rfl)
   exact⟨c,h1⟩
 cab:=λx c h _=>by cases h
 hd:=I.ok.hd
 frames:=I.ok.frames
 stk:=.inl rfl
 exf:=λb hb=>⟨ne_of_lt (hlt b hb),λx c h=>(hf b hb).2.2.2.2.1 x c (Xiw I.ok S h)⟩
 bs:=I.bs
 bsz:=le_trans I.ok.bsz I.sz
 noex:=λb o e hb=>by
  rcases (hf b hb).2.2.2.1 with z |z
  .exact I.ok.noex b o e z
  .exact absurd (lt_of_lt_of_le (lt_size e) (le_trans I.ok.bsz z)) (lt_irrefl _)
 exfs:=λb hb h=>by
  rcases mem_cons.mp (I.stkSub b h) with z |z
  .exact (hf b hb).2.1 z
  .exact (hf b hb).2.2.1 z
 funs:=I.stack
 frf:=I.stkFree
theorem Inv.blk {h₁:Heap}{m:Str->Option Value}{o:Obj}{t:Nat}(I:Inv X pins Y H s)(S:BlkScope X.env.scope scope)(cap:Xb2 X scope N ix)(hf:∀b∈fp,Xn9 X pins H b)(hlt:∀b∈fp,b<s.heap.objs.size)
  (hns:h₁.Ns s.heap.objs.size m) (hsb:Heap.SameBut s.heap.objs.size (s.heap.push o) h₁):Inv (X.blk scope N fp s H) [] (Xlv ix Y) H {s with heap:=h₁,toks:=t}:=by
 have keep:∀b o,s.heap.get? b=some o->h₁.get? b=some o:=λb o e=>hsb.extBut b o (ne_of_lt (lt_size e)) (get?_push_of_some _ e)
 obtain⟨hl,hcap⟩:=cap.get
 refine⟨I.blkOk S hf hlt,rfl,I.bare,Un.kept keep,⟨m,hns,λj x v e1 e2 e3=>?_⟩,λx c e=>?_,I.hok.fresh (Nat.le_refl _),λx c e=>I.freeC x c (Xiw I.ok S e),λp hp=>absurd (show p∈([]:List (Addr×Obj)) from hp) (by simp),I.hok.kept keep,by unfold Xlv;rw[length_map];exact hl.symm⟩
 .obtain ⟨i,h1,h2⟩:∃i,ix[j]?=some (some i)/\Y[i]?=some (some v):=by
   unfold Xlv at e2
   rw[getElem?_map]at e2
   cases q:ix[j]? with
   |none=>rw[q]at e2;cases e2
   |some o=>
    rw[q]at e2
    cases o with
    |none=>simp at e2
    |some i=>
     refine⟨i,rfl,?_⟩
     cases q2:Y[i]? with
     |none=>simp[q2]at e2
     |some o2=>simp[q2]at e2;rw[e2]
  obtain⟨y,n1,n2,n3,n4⟩:=hcap j i h1
  have hxy:x=y:=by rw[e1]at n1;exact Option.some.inj n1
  subst hxy
  obtain⟨m',hn',hl'⟩:=I.loc
  have vis:Vis X.env.scope x:=by rcases n4 with k |k;exact .inr (.inl k);exact .inr (.inr k)
  obtain⟨u,r,l⟩:=hl' i x v n2 h2 vis
  refine⟨u,r,.inr ⟨?_,?_⟩⟩
  .show (relabel scope X.env).names.lookup x=some .cell∨(relabel scope X.env).names.lookup x=some .free
   rw[Xex,n3]
   by_cases hc:(NameKind.free==NameKind.free && X.env.scope.kind == .function && X.env.kindOf x==some .cell)=true
   .left;simp only[map_some,if_pos hc]
   .right;simp only[map_some,if_neg hc]
  .obtain ⟨c,c1,c2⟩:=Xl3 I.ok n3 n4
   refine⟨c,c1,?_⟩
   rcases l with⟨hk,_⟩ | ⟨_,c',hc',z⟩
   .exfalso
    rcases n4 with k |k
    .rw [hk]at k;cases k
    .rw [hk]at k;cases k
   .rw [c2]at hc';cases hc'
    obtain⟨ob,ho,hd⟩:=z
    exact⟨ob,keep _ _ ho,hd⟩
 .obtain ⟨v,ob,ho,hd⟩:=I.cell x c (Xiw I.ok S e)
  exact⟨v,ob,keep _ _ ho,hd⟩
theorem Inv.unblk {pins':List (Addr×Obj)}{Y':St}{H':Hp}{s':Shared}(I:Inv X pins Y H s)(hf:∀b∈fp,Xn9 X pins H b)(J:Inv (X.blk scope N fp s H) pins' Y' H' s'):Inv X pins Y H' s':=
 I.call' (ch:=fp) J.os J.base J.hok J.bare λb hb=>⟨(hf b hb).2.2.2.1,(hf b hb).2.1,(hf b hb).2.2.2.2.1,(hf b hb).2.2.2.2.2⟩
theorem Inv.frameGone {C:Addr}{h':Heap}(I:Inv X pins Y H s)(f:Xn9 X pins H C)(hs:Heap.SameBut C s.heap h'):Inv X pins Y H {s with heap:=h'}:=
 I.turned (t':=s.toks) (λb o hb e=>hs.extBut b o hb e) f.1 f.2.1 f.2.2.2.1 f.2.2.2.2.1 f.2.2.2.2.2
end
def Xhp (J:It)(D:Addr)(g:TG)(te:TE)(Y₀:St)(H₀:Hp)(fin:Hp->Prop):Prop:=
 ∃W:Nat->Nat->St->List V->Hp->Prop,(∃m,W 0 m Y₀ [] H₀)/\∀i m Y ys H,W i m Y ys H->
  (J.stop i H/\fin H)∨(ys.length<sizeLine/\J.go i H/\∀x H',J.yld i H x H'->g x Y H' λY2 H2=>te Y2 H2 λy H3=>H3 D=some (.lst ys)/\∃m',m'<m/\W (i+1) m' Y2 (ys++[y]) (upd H3 D (.lst (ys++[y]))))
def Xqe (wi:TI)(ix:List (Option Nat))(g:TG)(te:TE):TE:=λY H Q=>wi Y H λJ H1=>∀D,H1 D=none->Xhp J D g te (Xlv ix Y) (upd H1 D (.lst [])) λH'=>Q (.ref D) H'
section
variable {X:Cx}{tg elt iter:Expr}{scope:Scope}{N:List Str}{ix:List (Option Nat)}{wi:TI}{g:TG}{te:TE}{pos:Pos}
theorem Xsc {pins:List (Addr×Obj)}{s:Shared}{Y:St}{H:Hp}{Q:VK}{RR:Value->Addr->Result->Shared->Prop}(hc:X.calm=true)(hi:PI X tg iter wi)(S:BlkScope X.env.scope scope)(cap:Xb2 X scope N ix)
  (hg:∀fp s H,PG (X.blk scope N fp s H) tg g) (he:∀fp s H,PE (X.blk scope N fp s H) elt te) (I:Inv X pins Y H s) (h:Xqe wi ix g te Y H Q)
  (hRR:∀D C H' s',Inv X pins Y H' s'->Xn9 X pins H' C->(∃m,s'.heap.Ns C m)->Q (.ref D) H'->RR (.ref D) C (.ok .next) s'):
  wpAny (model X.prog X.w) X.A (eval iter X.env) (λx s₁=>wpAny (model X.prog X.w) X.A (pyIter x) (λit s₂=>wpAny (model X.prog X.w) X.A (newList []) (λacc s₃=>
   wpAny (model X.prog X.w) X.A (newFunctionEnv scope X.env.globals (Xii scope X.env) [] X.env.qual none .none (some X.env)) (λcenv s₄=>
    codeAny (model X.prog X.w) X.A (.compStart (.ListComp elt [⟨tg,iter,[],0⟩] scope pos) 0 it acc {cenv with scope:=relabel scope X.env}) (RR acc cenv.locals) s₄) X.xe s₃) X.xe s₂) X.xe s₁) X.xe s:=by
 refine thn (hi pins s Y H _ I h) λv s1 h1=>thn h1 λitv s2 h2=>?_
 obtain⟨it,fp,tn,J,H2,e,I2,T,st2,f2,R⟩:=h2
 subst e
 refine wpAny_newObj_type (wpAny_newFunctionEnv S.cell (by intro y hy;simp at hy) (λh₁ hns₁ hsb₁=>?_) S.kind)
 dsimp only at hns₁ hsb₁ ⊢
 have I3:Inv X pins Y (upd H2 s2.heap.objs.size (.lst [])) {s2 with heap:=s2.heap.push {cls:=.type "list",data:=.seq ([]:List Value).toArray},toks:=s2.toks}:=I2.lnew .nil (zero_le _)
 have hD:H2 s2.heap.objs.size=none:=I2.fresh
 have lt2:∀b∈fp,b<s2.heap.objs.size:=λb hb=>by obtain⟨o,e,_⟩:=T.obj 0 _ st2 b hb;exact lt_size e
 obtain⟨W,⟨m0,w0⟩,turn⟩:=R s2.heap.objs.size hD
 generalize hs3:({s2 with heap:=s2.heap.push {cls:=.type "list",data:=.seq ([]:List Value).toArray},toks:=s2.toks}:Shared)=s3 at I3
 have e3:s3.heap=s2.heap.push {cls:=.type "list",data:=.seq ([]:List Value).toArray}:=by rw[<- hs3]
 have sz3:s3.heap.objs.size=s2.heap.objs.size+1:=by rw[e3,size_push]
 have f3:∀b∈fp,Xn9 X pins (upd H2 s2.heap.objs.size (.lst [])) b:=λb hb=>⟨by rw[Xbv (ne_of_lt (lt2 b hb))];exact (f2 b hb).1,(f2 b hb).2⟩
 have lt3:∀b∈fp,b<s3.heap.objs.size:=λb hb=>by rw[sz3];exact Nat.lt_succ_of_lt (lt2 b hb)
 have hns₁':=hns₁
 rw[<- e3]at hns₁'
 have hsb₁':=hsb₁
 rw[<- e3]at hsb₁'
 have J0:=I3.blk (N:=N) (ix:=ix) (fp:=fp) (t:=s2.toks+([]:List (Str×Value)).length) S cap f3 lt3 hns₁' hsb₁'
 have keep1:∀b o,s2.heap.get? b=some o->h₁.get? b=some o:=λb o e=>hsb₁.extBut b o (by rw[size_push];exact ne_of_lt (Nat.lt_succ_of_lt (lt_size e))) (get?_push_of_some _ (get?_push_of_some _ e))
 have st1:tn 0 h₁:=T.keep 0 _ _ st2 λb _ o e=>keep1 b o e
 have stat:∀{H':Hp},(∀b∈fp,H' b=none)->∀b∈fp,Xn9 (X.blk scope N fp s3 (upd H2 s2.heap.objs.size (.lst []))) [] H' b:=λ{H'} hn b hb=>by
  refine⟨hn b hb,ne_of_lt (lt3 b hb),λz=>?_,.inl hb,λx c e=>(f2 b hb).2.2.2.2.1 x c (Xiw I.ok S e),λp hp=>absurd (show p∈([]:List (Addr×Obj)) from hp) (by simp)⟩
  rcases mem_cons.mp (I3.stkSub b z) with y |y
  .exact (f2 b hb).2.1 y
  .exact (f2 b hb).2.2.1 y
 have loop:∀s4:Shared,s4={s3 with heap:=h₁,toks:=s2.toks+([]:List (Str×Value)).length}->
   codeAny (model X.prog X.w) X.A (.compLoop (.ListComp elt [⟨tg,iter,[],0⟩] scope pos) 0 (.ref it) (.ref s2.heap.objs.size) (compEnvC scope (Xii scope X.env) s3.heap.objs.size X.env)) (RR (.ref s2.heap.objs.size) s3.heap.objs.size) s4:=by
  rintro s4 rfl
  refine Xlo (λn s'=>∃i Y' ys H',Inv (X.blk scope N fp s3 (upd H2 s2.heap.objs.size (.lst []))) [] Y' H' s'/\tn i s'.heap/\(∀b∈fp,H' b=none)/\W i n Y' ys H') ?_ m0 ⟨0,_,[],_,J0,st1,λb hb=>(f3 b hb).1,w0⟩
  rintro n s' ⟨i,Y',ys,H',I',st',fr',w'⟩
  rcases turn i n Y' ys H' w' with⟨stop,fin⟩ | ⟨hy,go,step⟩
  .refine thn (T.done (X.blk scope N fp s3 (upd H2 s2.heap.objs.size (.lst []))) rfl rfl rfl hc i [] s' Y' H' _ I' (stat fr') st' stop) λr s5 ⟨hr,I5⟩=>?_
   subst hr
   obtain⟨m,hn,_⟩:=I5.loc
   exact hRR _ _ H' s5 (I3.unblk f3 I5) (I3.fpOk (Nat.le_refl _) I5.free) ⟨m,hn⟩ fin
  .refine thn (T.item (X.blk scope N fp s3 (upd H2 s2.heap.objs.size (.lst []))) rfl rfl rfl hc i [] s' Y' H' _ I' (stat fr') st' go) λr s5 ⟨u,hr,h5⟩=>?_
   subst hr
   refine thn h5 λ_ s6 ⟨x,H6,I6,r6,y6,st6,fr6⟩=>?_
   have I6':=I6.pinned (stat fr6) (T.obj _ _ st6)
   refine thn (hg fp s3 _ _ s6 Y' H6 x u _ I6' r6 (step x H6 y6)) λ_ s7 ⟨Y7,H7,I7,q7⟩=>?_
   refine thn (he fp s3 _ _ s7 Y7 H7 _ I7 q7) λyv s8 ⟨y,H8,I8,r8,hl8,m',hm',w8⟩=>?_
   refine thn (Xcw _ s8 Y7 H8 (.ref s2.heap.objs.size) [y] (.ref s2.heap.objs.size) [yv] (λ_ H9=>H9=upd H8 s2.heap.objs.size (.lst (ys++[y]))) I8 rfl (.cons r8 .nil) ⟨_,ys,y,rfl,rfl,hl8,hy,rfl⟩) λ_ s9 ⟨_,H9,I9,_,e9⟩=>?_
   subst e9
   refine⟨m',hm',i+1,Y7,ys++[y],_,I9.unpinned,T.keep _ _ _ st6 λb hb o e=>(I9.pin (b,o) (mem_append_right _ (mem_append_right _ (Xfj hb e)))).1,λb hb=>?_,w8⟩
   obtain⟨o,e,_⟩:=T.obj _ _ st6 b hb
   exact (I9.pin (b,o) (mem_append_right _ (mem_append_right _ (Xfj hb e)))).2.1
 have fin:=loop _ rfl
 rw[<- hs3]at fin
 exact codeAny_compStart_list fin (T.self _ 0 _ _ _ st1 fin)
theorem Xu1 (S:BlkScope X.env.scope scope)(ok:X.Ok):closureFor scope X.env=pure (Xii scope X.env):=Xij λx hx e=>ok.has x.1 (S.free x hx e)
theorem Xda (hc:X.calm=true)(hi:PI X tg iter wi)(S:BlkScope X.env.scope scope)(cap:Xb2 X scope N ix)(hg:∀fp s H,PG (X.blk scope N fp s H) tg g)(he:∀fp s H,PE (X.blk scope N fp s H) elt te)
  (hs:∀x,foldedSetIterable iter X.env x=pure x:=by intro _;rfl):PE X (.ListComp elt [⟨tg,iter,[],0⟩] scope pos) (Xqe wi ix g te):=by
 intro pins s Y H Q I h
 rw[eval_ListComp]
 refine wpAny_comprehension_free (use:=none) rfl hs (Xu1 S I.ok) S.kind S.names (Xsc (RR:=λacc C=>compPost (model X.prog X.w) X.A X.xe none (EP X pins Y Q) acc C) hc hi S cap hg he I h λD C H' s' I' f' hn q=>?_)
 obtain⟨m,hn⟩:=hn
 exact⟨m,hn,λh' hs'=>⟨.ref D,H',I'.frameGone f' hs',rfl,q⟩⟩
theorem Xgq {i:Nat}{y:Str}{py spos:Pos}(hN:X.N.Nodup)(hiN:X.N[i]?=some y)(hy:Loc X.env.scope y)(hc:X.calm=true)(hi:PI X tg iter wi)(S:BlkScope X.env.scope scope)(cap:Xb2 X scope N ix)
  (hg:∀fp s H,PG (X.blk scope N fp s H) tg g) (he:∀fp s H,PE (X.blk scope N fp s H) elt te)
  (hsw:swapsWith (.ListComp elt [⟨tg,iter,[],0⟩] scope pos) (some (.Name y py)) spos.line X.env=pure true:=by rfl)
  (hs:∀x,foldedSetIterable iter X.env x=pure x:=by intro _;rfl) (hf:X.fn y=true∨X.env.scope.names.lookup y=some .local:=by first |exact .inl rfl |exact .inr rfl |assumption):
  PS X (.Assign [.Name y py] (.ListComp elt [⟨tg,iter,[],0⟩] scope pos) spos) (Yam (Xqe wi ix g te) (Xtg i)):=by
 intro pins s Y H D I h
 rw[exec_Assign_Name_used _ _ _ _ hsw]
 refine wpAny_bind (wpAny_standAt (wpAny_bind ?_))
 show wpAny _ X.A (do let _ <- comprehension (.ListComp elt [⟨tg,iter,[],0⟩] scope pos) scope X.env _ (newList []) false (eval iter X.env) (some (assign (.Name y py) X.env))) _ _ s
 refine wpAny_bind (wpAny_mono (wpAny_comprehension_free (use:=some (assign (.Name y py) X.env)) (Q:=λ_ s'=>SP X pins D .next s') rfl hs (Xu1 S I.ok) S.kind S.names
  (Xsc (RR:=λacc C=>compPost (model X.prog X.w) X.A X.xe (some (assign (.Name y py) X.env)) (λ_ s'=>SP X pins D .next s') acc C) hc hi S cap hg he I h λl C H' s' I' f' hn q=>?_)) (λ_ s' hq=>wpAny_pure (wpAny_pure hq)) λ_ _ e=>e)
 obtain⟨m,hn⟩:=hn
 show wpAny _ X.A (assign (.Name y py) X.env (.ref l)) _ _ _
 refine wpAny_assign_Name (Xqg (v:=.ref l) I' hN hiN hy rfl (λs'' I'' ⟨a,hsb,ha⟩=>?_) hf)
 have hCa:C≠a:=by
  rcases ha with z |z
  .rw [z];exact f'.2.1
  .exact Ne.symm (f'.2.2.2.2.1 y a z)
 exact⟨m,hn.sameBut hsb hCa,λh' hs'=>⟨_,H',I''.frameGone f' hs',q⟩⟩
end
section
variable {X:Cx}
set_option exponentiation.threshold 5000 in
def Yif (K:Frag):List V->Hp->VK->Prop:=λxs H Q=>∃(l:Addr) (ns:List Int),xs=[.ref l]/\SqL K H l (ns.map V.int)/\0<ns.length/\∀M,M∈ns->(∀a,a∈ns->a<=M)->Q (.int M) H
theorem Xsd (hc:X.calm=true):Xhv X (.builtin "max") (Yif X.K):=by
 intro pins s Y H xs us Q I r h
 obtain⟨l,ns,rfl,hq,hne,q⟩:=h
 obtain⟨u,rfl,ru⟩:=Xiy r
 cases ru
 obtain⟨its,rv,pl,hz⟩:=I.list hq
 have hi:IntsAre its ns:=Xv3 rv
 have hl:=pl.isList
 obtain⟨ys,e⟩:=hi.allInts.items
 have hns:ns=ys.toList.map (·.1):=by rw[<- hi.numsOf,<- nums_intItems,<- e]
 have hsz:0<ys.size:=by
  have h3:=hne;rw[hns,length_map,length_toList]at h3;exact h3
 rw[e]at hl
 refine max_intList (I.ok.hd hc) hl hsz λv h' tk hv hk=>?_
 obtain⟨t,rfl⟩:=intItems_at hv
 obtain⟨h1,h2⟩:=argBest_gt (numAt ys) (ys.size-1)
 refine⟨.int _,H,I.kept hk,⟨t,rfl⟩,q _ ?_ λa ha=>?_⟩
 .rw [hns,numAt_eq];exact getD_mem (by rw[length_map,length_toList];omega)
 .rw [hns]at ha
  obtain⟨j,hj,rfl⟩:=mem_getD ha
  rw[length_map,length_toList]at hj
  rw[<- numAt_eq];exact h2 j (by omega)
def Yik (K:Frag):V->V->Hp->VK->Prop:=λx y H Q=>∃p xs i v,x = .ref p/\y = .int i/\SqL K H p xs/\0<=i/\xs[i.toNat]?=some v/\Q v H
theorem Xy7:Ync X (Yik X.K):=by
 intro pins s Y H o i ov iv Q I ro ri h
 obtain⟨p,xs,k,v,rfl,rfl,hq,h0,hx,q⟩:=h
 cases ro
 obtain⟨t,rfl⟩:=ri
 obtain⟨its,r,pl,hz⟩:=I.list hq
 obtain⟨w',ew,rw'⟩:=r.get hx
 have hn:=Xlk
 have hlt:k.toNat<xs.length:=(List.getElem?_eq_some_iff.mp hx).1
 exact wpAny_getItem_list pl.isList h0 (by omega) (by simpa using ew) ⟨v,H,I,rw',q⟩
end
section
variable {X:Cx}
theorem Xhv.imp {f:Value}{r r':List V->Hp->VK->Prop}(h:Xhv X f r)(hi:∀xs H Q,r' xs H Q->r xs H Q):Xhv X f r':=λpins s Y H xs us Q I rs q=>h pins s Y H xs us Q I rs (hi xs H Q q)
def Yc1 (K:Frag):List V->Hp->VK->Prop:=λxs H Q=>∃p ys,xs=[.ref p]/\(SqL K H p ys∨SqT K H p ys)/\∀l H',H l=none->Xbi H H'->H' l=some (.lst ys)->Q (.ref l) H'
def Xxv (K:Frag):List V->Hp->VK->Prop:=λxs H Q=>∃p ys,xs=[.ref p]/\SqL K H p ys/\∀l H',H l=none->Xbi H H'->H' l=some (.tup ys)->Q (.ref l) H'
theorem Xwc:Xhv X (.type "list") (Yc1 X.K):=Xse.imp λxs H Q ⟨p,ys,e,h,q⟩=>⟨p,ys,e,h,λl hl=>q l _ hl (Xbi.new hl) Xay⟩
theorem Xhg:Xhv X (.type "tuple") (Xxv X.K):=Xp2.imp λxs H Q ⟨p,ys,e,h,q⟩=>⟨p,ys,e,.inl ⟨h,λl hl=>q l _ hl (Xbi.new hl) Xay⟩⟩
def Yml (K:Frag):V->Option Int->Option Int->Hp->VK->Prop:=λx lo hi H Q=>∃a xs,x = .ref a/\SqL K H a xs/\∀p H',H p=none->Xbi H H'->H' p=some (.lst (Yaf xs lo hi))->Q (.ref p) H'
theorem SlR.imp {r r':V->Option Int->Option Int->Hp->VK->Prop}(h:SlR X r)(hi:∀x lo hi H Q,r' x lo hi H Q->r x lo hi H Q):SlR X r':=λpins s Y H x v vl vu lo hi' sl Q I rx hs pl pu q=>h pins s Y H x v vl vu lo hi' sl Q I rx hs pl pu (hi _ _ _ _ _ q)
theorem Xt1:SlR X (Yml X.K):=Yef.imp λx lo hi H Q ⟨a,xs,e,h,q⟩=>⟨a,xs,e,h,λp hp=>q p _ hp (Xbi.new hp) Xay⟩
end
end L2
namespace PySem
namespace F
end F
section
variable {prog:Program}{w:World}{A:Around}{E:Value->Shared->Prop}{s:Shared}
end
end PySem
namespace L2
open PySem PySem.Spec PyProof.Rows
section
variable {X:Cx}{tg:Expr}
end
theorem Xbi.seqT {K:Frag}{H H':Hp}{a:Addr}{xs:List V}(e:Xbi H H')(h:SqT K H a xs):SqT K H' a xs:=by
 rcases h with (h | ⟨o,h⟩) |h
 .exact .inl (.inl (e _ _ h))
 .exact .inl (.inr ⟨o,e _ _ h⟩)
 .exact .inr h
theorem Xat {X:Cx}{x:Str}{i:Int}{pos:Pos}(hg:Gl X x)(hm:∃t,X.mg x=some (.int i t))(hd:(x==("__debug__":Str))=false:=by decide):PE X (.Name x pos) (tC (.int i)):=by
 obtain⟨t,e⟩:=hm
 exact Xjo hg e ⟨t,rfl⟩ hd
inductive D where
 |int (i:Int) |bl (b:Bool) |non |str (x:Str) |ty (n:String) |fn (x:Str) |tup (ds:List D) |lst (ds:List D) |dic |exc (c:Str) |obj (c:Str) (ns:List Str) (ds:List D)
def Xtl (a:Addr)(c:Value):Heap->Prop:=λh=>∃o,h.get? a=some o/\o.cls=c
mutual
def Rep (K:Frag)(F:Hp):D->V->Prop
 | .int i,v=>v = .int i
 | .bl b,v=>v = .bl b
 | .non,v=>v = .non
 | .str x,v=>v = .str x
 | .ty n,v=>v = .ty n
 | .fn x,v=>∃f,v = .ref f/\nsIn K mainGlobals x=some (some (.ref f))
 | .tup ds,v=>∃a vs,v = .ref a/\SqT K F a vs/\Xb4 K F ds vs
 | .lst ds,v=>∃a vs,v = .ref a/\SqL K F a vs/\Xb4 K F ds vs
 | .dic,v=>∃a,v = .ref a/\F a=some (.ext (Xtl a (.type "dict")))
 | .exc c,v=>∃a C,v = .ref a/\nsIn K mainGlobals c=some (some (.ref C))/\F a=some (.ext (Xtl a (.ref C)))
 | .obj c ns ds,v=>∃a C dx vs,v = .ref a/\nsIn K mainGlobals c=some (some (.ref C))/\F a=some (.ins C dx (ns.zip vs))/\ds.length<=ns.length/\Xb4 K F ds vs
def Xb4 (K:Frag)(F:Hp):List D->List V->Prop
 | [],vs=>vs=[]
 |d::ds,vs=>∃v r,vs=v::r/\Rep K F d v/\Xb4 K F ds r
end
section
variable {K:Frag}{F F' H H':Hp}
mutual
theorem Rep.mono (s:Xbi F F'):∀{d:D} {v:V},Rep K F d v->Rep K F' d v
 | .int _,_,h=>h
 | .bl _,_,h=>h
 | .non,_,h=>h
 | .str _,_,h=>h
 | .ty _,_,h=>h
 | .fn _,_,h=>h
 | .tup ds,v,h=>by
  obtain⟨a,vs,e,h1,h2⟩:=h
  exact⟨a,vs,e,s.seqT h1,Xb4.mono s h2⟩
 | .lst ds,v,h=>by
  obtain⟨a,vs,e,h1,h2⟩:=h
  exact⟨a,vs,e,s.seq h1,Xb4.mono s h2⟩
 | .dic,v,h=>by
  obtain⟨a,e,h1⟩:=h
  exact⟨a,e,s _ _ h1⟩
 | .exc _,v,h=>by
  obtain⟨a,C,e,h0,h1⟩:=h
  exact⟨a,C,e,h0,s _ _ h1⟩
 | .obj _ _ ds,v,h=>by
  obtain⟨a,C,dx,vs,e,h0,h1,hl,h2⟩:=h
  exact⟨a,C,dx,vs,e,h0,s _ _ h1,hl,Xb4.mono s h2⟩
theorem Xb4.mono (s:Xbi F F'):∀{ds:List D} {vs:List V},Xb4 K F ds vs->Xb4 K F' ds vs
 | [],_,h=>h
 |d::ds,vs,h=>by
  obtain⟨v,r,e,h1,h2⟩:=h
  exact⟨v,r,e,Rep.mono s h1,Xb4.mono s h2⟩
end
theorem Xb4.length:∀{ds:List D} {vs:List V},Xb4 K F ds vs->ds.length=vs.length
 | [],_,h=>by cases h;rfl
 |d::ds,vs,h=>by
  obtain⟨v,r,rfl,h1,h2⟩:=h
  simp[Xb4.length h2]
theorem Xb4.get:∀{ds:List D} {vs:List V} {i:Nat} {d:D},Xb4 K F ds vs->ds[i]?=some d->∃v,vs[i]?=some v/\Rep K F d v
 | [],_,_,_,_,e=>by simp at e
 |d::ds,vs,i,d',h,e=>by
  obtain⟨v,r,rfl,h1,h2⟩:=h
  cases i with
  |zero=>simp at e;subst e;exact⟨v,rfl,h1⟩
  |succ i=>simpa using Xb4.get h2 (by simpa using e)
theorem Xb4.get':∀{ds:List D} {vs:List V} {i:Nat} {v:V},Xb4 K F ds vs->vs[i]?=some v->∃d,ds[i]?=some d/\Rep K F d v:=λ{ds vs i v} h e=>by
 have hl:=h.length
 have hi:=(List.getElem?_eq_some_iff.mp e).1
 obtain⟨v',e',r⟩:=h.get (getElem?_eq_getElem (l:=ds) (i:=i) (by omega))
 rw[e]at e';cases e'
 exact⟨_,getElem?_eq_getElem (by omega),r⟩
theorem Xb4.append:∀{ds es:List D} {vs us:List V},Xb4 K F ds vs->Xb4 K F es us->Xb4 K F (ds++es) (vs++us)
 | [],_,_,_,h,g=>by cases h;exact g
 |d::ds,_,_,_,h,g=>by
  obtain⟨v,r,rfl,h1,h2⟩:=h
  exact⟨v,r++_,rfl,h1,Xb4.append h2 g⟩
theorem Xb4.take:∀{ds:List D} {vs:List V} (n:Nat),Xb4 K F ds vs->Xb4 K F (ds.take n) (vs.take n)
 | [],_,n,h=>by cases h;simp[Xb4]
 |d::ds,_,0,h=>by simp[Xb4]
 |d::ds,_,n+1,h=>by
  obtain⟨v,r,rfl,h1,h2⟩:=h
  exact⟨v,r.take n,rfl,h1,Xb4.take n h2⟩
theorem Xb4.drop:∀{ds:List D} {vs:List V} (n:Nat),Xb4 K F ds vs->Xb4 K F (ds.drop n) (vs.drop n)
 | [],_,n,h=>by cases h;simp[Xb4]
 |d::ds,_,0,h=>h
 |d::ds,_,n+1,h=>by
  obtain⟨v,r,rfl,h1,h2⟩:=h
  simpa using Xb4.drop n h2
theorem Xb4.of:∀{ds:List D} {vs:List V},ds.length=vs.length->(∀(i:Nat) d v,ds[i]?=some d->vs[i]?=some v->Rep K F d v)->Xb4 K F ds vs
 | [],[],_,_=>rfl
 |d::ds,v::vs,e,h=>⟨v,vs,rfl,h 0 d v rfl rfl,Xb4.of (by simpa using e) λi d' v' e1 e2=>h (i+1) d' v' (by simpa using e1) (by simpa using e2)⟩
 | [],_::_,e,_=>by simp at e
 |_::_,[],e,_=>by simp at e
theorem Xb4.reverse {ds:List D}{vs:List V}(h:Xb4 K F ds vs):Xb4 K F ds.reverse vs.reverse:=by
 have hl:=h.length
 refine Xb4.of (by simp[hl]) λi d v e1 e2=>?_
 have h1:=(List.getElem?_eq_some_iff.mp e1).1
 rw[length_reverse]at h1
 rw[getElem?_reverse (by omega)]at e1
 rw[getElem?_reverse (by omega),<- hl]at e2
 obtain⟨v',e',r⟩:=h.get e1
 rw[e2]at e';cases e';exact r
theorem Xj8:∀{xs:List Int} {vs:List V},Xb4 K F (xs.map D.int) vs↔vs=xs.map V.int
 | [],vs=>Iff.rfl
 |x :: xs,vs=>by
  constructor
  .rintro ⟨v,r,rfl,h1,h2⟩
   have h1':v=V.int x:=h1
   rw[h1',Xj8.mp h2];rfl
  .rintro rfl
   exact⟨_,_,rfl,rfl,Xj8.mpr rfl⟩
end
def imm:HO->Bool
 | .tup _=>true
 | .frz _ _=>true
 |_=>false
inductive OV where
 |fz (d:D)
 |nl (ts:List OV)
 |rt (a:Addr) (ts:List OV)
 |fx (v:V) (d:D)
 |ob (o:Option Addr) (c:Str) (ns:List Str) (ts:List OV)
mutual
def OV.val:OV->D
 | .fz d=>d
 | .nl ts=>.lst (OV.vals ts)
 | .rt _ ts=>.lst (OV.vals ts)
 | .fx _ d=>d
 | .ob _ c ns ts=>.obj c ns (OV.vals ts)
def OV.vals:List OV->List D
 | []=>[]
 |t::ts=>t.val::OV.vals ts
end
theorem OV.vals_eq:∀(ts:List OV),OV.vals ts=ts.map OV.val
 | []=>by simp[OV.vals]
 |t::ts=>by simp[OV.vals,OV.vals_eq ts]
mutual
def Xnn (K:Frag)(F H:Hp):OV->V->List Addr->Prop
 | .fz d,v,A=>A=[]/\Rep K F d v
 | .nl ts,v,A=>∃a vs B,v = .ref a/\A=a::B/\H a=some (.lst vs)/\Xa7 K F H ts vs B
 | .rt a ts,v,A=>∃vs B,v = .ref a/\A=a::B/\H a=some (.lst vs)/\Xa7 K F H ts vs B
 | .fx u d,v,A=>A=[]/\v=u/\Rep K F d v
 | .ob o c ns ts,v,A=>∃a C dx vs B,v = .ref a/\A=a::dx::B/\nsIn K mainGlobals c=some (some (.ref C))/\(∀a',o=some a'->a=a')/\H a=some (.ins C dx (ns.zip vs))/\H dx=some (.own a)/\ts.length<=ns.length/\Xa7 K F H ts vs B
def Xa7 (K:Frag)(F H:Hp):List OV->List V->List Addr->Prop
 | [],vs,A=>vs=[]/\A=[]
 |t::ts,vs,A=>∃v r B C,vs=v::r/\A=B++C/\Xnn K F H t v B/\Xa7 K F H ts r C
end
section
variable {K:Frag}{F F' H H':Hp}
mutual
theorem Xnn.frame (s:Xbi F F'):∀{t:OV} {v:V} {A:List Addr},(∀a∈A,∀xs,H a=some xs->H' a=some xs)->Xnn K F H t v A->Xnn K F' H' t v A
 | .fz d,v,A,_,h=>⟨h.1,h.2.mono s⟩
 | .nl ts,v,A,hk,h=>by
  obtain⟨a,vs,B,e,rfl,h1,h2⟩:=h
  exact⟨a,vs,B,e,rfl,hk a mem_cons_self _ h1,Xa7.frame s (λb hb=>hk b (mem_cons_of_mem _ hb)) h2⟩
 | .rt a ts,v,A,hk,h=>by
  obtain⟨vs,B,e,rfl,h1,h2⟩:=h
  exact⟨vs,B,e,rfl,hk a mem_cons_self _ h1,Xa7.frame s (λb hb=>hk b (mem_cons_of_mem _ hb)) h2⟩
 | .fx u d,v,A,_,h=>⟨h.1,h.2.1,h.2.2.mono s⟩
 | .ob o c ns ts,v,A,hk,h=>by
  obtain⟨a,C,dx,vs,B,e,rfl,h0,ho,h1,h2,hl,h3⟩:=h
  exact⟨a,C,dx,vs,B,e,rfl,h0,ho,hk a (by simp) _ h1,hk dx (by simp) _ h2,hl,Xa7.frame s (λb hb=>hk b (by simp[hb])) h3⟩
theorem Xa7.frame (s:Xbi F F'):∀{ts:List OV} {vs:List V} {A:List Addr},(∀a∈A,∀xs,H a=some xs->H' a=some xs)->Xa7 K F H ts vs A->Xa7 K F' H' ts vs A
 | [],vs,A,_,h=>h
 |t::ts,vs,A,hk,h=>by
  obtain⟨v,r,B,C,e,rfl,h1,h2⟩:=h
  exact⟨v,r,B,C,e,rfl,Xnn.frame s (λb hb=>hk b (mem_append_left _ hb)) h1,Xa7.frame s (λb hb=>hk b (mem_append_right _ hb)) h2⟩
end
mutual
theorem Xnn.isl:∀{t:OV} {v:V} {A:List Addr},Xnn K F H t v A->∀a∈A,∃xs,H a=some xs/\imm xs=false
 | .fz d,v,A,h,a,ha=>by rw[h.1]at ha;cases ha
 | .nl ts,v,A,h,a,ha=>by
  obtain⟨b,vs,B,e,rfl,h1,h2⟩:=h
  rcases mem_cons.mp ha with rfl |z
  .exact ⟨_,h1,rfl⟩
  .exact Xa7.isl h2 a z
 | .rt b ts,v,A,h,a,ha=>by
  obtain⟨vs,B,e,rfl,h1,h2⟩:=h
  rcases mem_cons.mp ha with rfl |z
  .exact ⟨_,h1,rfl⟩
  .exact Xa7.isl h2 a z
 | .fx u d,v,A,h,a,ha=>by rw[h.1]at ha;cases ha
 | .ob o c ns ts,v,A,h,a,ha=>by
  obtain⟨b,C,dx,vs,B,e,rfl,h0,ho,h1,h2,hl,h3⟩:=h
  rcases mem_cons.mp ha with rfl |z
  .exact ⟨_,h1,rfl⟩
  .rcases mem_cons.mp z with rfl |z
   .exact ⟨_,h2,rfl⟩
   .exact Xa7.isl h3 a z
theorem Xa7.isl:∀{ts:List OV} {vs:List V} {A:List Addr},Xa7 K F H ts vs A->∀a∈A,∃xs,H a=some xs/\imm xs=false
 | [],vs,A,h,a,ha=>by rw[h.2]at ha;cases ha
 |t::ts,vs,A,h,a,ha=>by
  obtain⟨v,r,B,C,e,rfl,h1,h2⟩:=h
  rcases mem_append.mp ha with z |z
  .exact Xnn.isl h1 a z
  .exact Xa7.isl h2 a z
end
mutual
theorem Xnn.rep (s:Xbi F F'):∀{t:OV} {v:V} {A:List Addr},(∀a∈A,∀xs,H a=some xs->F' a=some xs)->Xnn K F H t v A->Rep K F' t.val v
 | .fz d,v,A,_,h=>h.2.mono s
 | .nl ts,v,A,hk,h=>by
  obtain⟨a,vs,B,e,rfl,h1,h2⟩:=h
  exact⟨a,vs,e,SqL.of (hk a mem_cons_self _ h1),Xa7.rep s (λb hb=>hk b (mem_cons_of_mem _ hb)) h2⟩
 | .fx u d,v,A,_,h=>h.2.2.mono s
 | .ob o c ns ts,v,A,hk,h=>by
  obtain⟨a,C,dx,vs,B,e,rfl,h0,ho,h1,h2,hl,h3⟩:=h
  exact⟨a,C,dx,vs,e,h0,hk a (by simp) _ h1,by rw[OV.vals_eq,length_map];exact hl,Xa7.rep s (λb hb=>hk b (by simp[hb])) h3⟩
 | .rt a ts,v,A,hk,h=>by
  obtain⟨vs,B,e,rfl,h1,h2⟩:=h
  exact⟨a,vs,e,SqL.of (hk a mem_cons_self _ h1),Xa7.rep s (λb hb=>hk b (mem_cons_of_mem _ hb)) h2⟩
theorem Xa7.rep (s:Xbi F F'):∀{ts:List OV} {vs:List V} {A:List Addr},(∀a∈A,∀xs,H a=some xs->F' a=some xs)->Xa7 K F H ts vs A->Xb4 K F' (OV.vals ts) vs
 | [],vs,A,_,h=>h.1
 |t::ts,vs,A,hk,h=>by
  obtain⟨v,r,B,C,e,rfl,h1,h2⟩:=h
  exact⟨v,r,e,Xnn.rep s (λb hb=>hk b (mem_append_left _ hb)) h1,Xa7.rep s (λb hb=>hk b (mem_append_right _ hb)) h2⟩
end
theorem Xa7.length:∀{ts:List OV} {vs:List V} {A:List Addr},Xa7 K F H ts vs A->ts.length=vs.length
 | [],_,_,h=>by rw[h.1];rfl
 |t::ts,_,_,h=>by
  obtain⟨v,r,B,C,rfl,rfl,h1,h2⟩:=h
  simp[Xa7.length h2]
theorem Xa7.append:∀{ts us:List OV} {vs ws:List V} {A B:List Addr},Xa7 K F H ts vs A->Xa7 K F H us ws B->Xa7 K F H (ts++us) (vs++ws) (A++B)
 | [],_,_,_,_,_,h,g=>by obtain⟨rfl,rfl⟩:=h;exact g
 |t::ts,_,_,_,_,_,h,g=>by
  obtain⟨v,r,B,C,rfl,rfl,h1,h2⟩:=h
  exact⟨v,_,B,_,rfl,by rw[append_assoc],h1,Xa7.append h2 g⟩
theorem Xa7.one {t:OV}{v:V}{A:List Addr}(h:Xnn K F H t v A):Xa7 K F H [t] [v] A:=⟨v,[],A,[],rfl,by simp,h,rfl,rfl⟩
theorem Xa7.focus:∀{ts:List OV} {vs:List V} {A:List Addr} {i:Nat} {t:OV},Xa7 K F H ts vs A->ts[i]?=some t->∃v A1 B A2,vs[i]?=some v/\A=A1++(B++A2)/\Xnn K F H t v B/\
  ∀F' H' t' v' B',Xbi F F'->(∀a∈A1++A2,∀xs,H a=some xs->H' a=some xs)->Xnn K F' H' t' v' B'->Xa7 K F' H' (ts.set i t') (vs.set i v') (A1++(B'++A2))
 | [],_,_,_,_,_,e=>by simp at e
 |t::ts,_,_,0,t0,h,e=>by
  obtain⟨v,r,B,C,rfl,rfl,h1,h2⟩:=h
  simp at e
  subst e
  refine⟨v,[],B,C,rfl,rfl,h1,λF' H' t' v' B' s hk h'=>?_⟩
  exact⟨v',r,B',C,rfl,rfl,h',Xa7.frame s (λa ha=>hk a ha) h2⟩
 |t::ts,_,_,i+1,t0,h,e=>by
  obtain⟨v,r,B,C,rfl,rfl,h1,h2⟩:=h
  obtain⟨v0,A1,B0,A2,e1,rfl,h3,h4⟩:=Xa7.focus (i:=i) h2 (by simpa using e)
  refine⟨v0,B++A1,B0,A2,by simpa using e1,by simp,h3,λF' H' t' v' B' s hk h'=>?_⟩
  refine⟨v,r.set i v',B,A1++(B'++A2),rfl,by simp,Xnn.frame s (λa ha=>hk a (by simp[ha])) h1,h4 F' H' t' v' B' s (λa ha=>hk a ?_) h'⟩
  rcases mem_append.mp ha with z |z<;>simp[z]
theorem Xa7.fzs:∀{ds:List D} {vs:List V},Xb4 K F ds vs->Xa7 K F H (ds.map OV.fz) vs []
 | [],_,h=>⟨h,rfl⟩
 |d::ds,_,h=>by
  obtain⟨v,r,rfl,h1,h2⟩:=h
  exact⟨v,r,[],[],rfl,rfl,⟨rfl,h1⟩,Xa7.fzs h2⟩
end
structure Ext (F H F' H':Hp):Prop where
 ff:Xbi F F'
 hh:Xbi H H'
 fh:Xbi F' H'
 no:∀a o,F a=none->H a=some o->imm o=false->F' a=none
theorem Ext.refl {F H:Hp}(s:Xbi F H):Ext F H F H:=⟨Xbi.refl _,Xbi.refl _,s,λ_ _ h _ _=>h⟩
theorem Ext.trans {F H F' H' F'' H'':Hp}(a:Ext F H F' H')(b:Ext F' H' F'' H''):Ext F H F'' H'':=
 ⟨a.ff.trans b.ff,a.hh.trans b.hh,b.fh,λx o h1 h2 h3=>b.no x o (a.no x o h1 h2 h3) (a.hh _ _ h2) h3⟩
def Xno (K:Frag)(H F' H':Hp)(r:OV)(v:V):Prop:=∃A,Xnn K F' H' r v A/\A.Nodup/\∀a∈A,H a=none/\F' a=none
theorem Xno.fz {K:Frag}{H F' H':Hp}{d:D}{v:V}(h:Rep K F' d v):Xno K H F' H' (.fz d) v:=⟨[],⟨rfl,h⟩,nodup_nil,λ_ h=>by cases h⟩
theorem Xno.old {K:Frag}{H0 H F' H':Hp}{r:OV}{v:V}(s:Xbi H0 H)(h:Xno K H F' H' r v):Xno K H0 F' H' r v:=by
 obtain⟨A,h1,h2,h3⟩:=h
 exact⟨A,h1,h2,λa ha=>⟨s.free (h3 a ha).1,(h3 a ha).2⟩⟩
theorem Xno.frz {K:Frag}{F H F' H':Hp}{r:OV}{v:V}(x:Ext F H F' H')(h:Xno K H F' H' r v):∃F'',Ext F H F'' H'/\Xbi F' F''/\Rep K F'' r.val v:=by
 obtain⟨A,h1,h2,h3⟩:=h
 refine⟨λa=>if a∈A then H' a else F' a,⟨λb o e=>?_,x.hh,λb o e=>?_,λa o e1 e2 e3=>?_⟩,λb o e=>?_,?_⟩
 .have hb:b∉A:=λz=>by rw[(x.ff.free (h3 b z).2)]at e;cases e
  rw[if_neg hb];exact x.ff _ _ e
 .try dsimp only at e
  split at e
  .exact e
  .exact x.fh _ _ e
 .have ha:a∉A:=λz=>by rw[(h3 a z).1]at e2;cases e2
  rw[if_neg ha];exact x.no a o e1 e2 e3
 .have hb:b∉A:=λz=>by rw[(h3 b z).2]at e;cases e
  try dsimp only
  rw[if_neg hb];exact e
 .refine h1.rep (λb o e=>?_) λa ha xs e=>?_
  .have hb:b∉A:=λz=>by rw[(h3 b z).2]at e;cases e
   rw[if_neg hb];exact e
  .rw [if_pos ha];exact e
inductive Sl where
 |own (t:OV)
 |bw (d:D)
abbrev Dst:=List (Option Sl)
structure ER (K:Frag) (F0 H0 F H:Hp) (Y:St) (δ:Dst) (A:Nat->List Addr):Prop where
 len:Y.length=δ.length
 ext:Ext F0 H0 F H
 own:∀(i:Nat) (t:OV),δ[i]?=some (some (.own t))->∃v,Y[i]?=some (some v)/\Xnn K F H t v (A i)
 bw:∀(i:Nat) (d:D),δ[i]?=some (some (.bw d))->∃v,Y[i]?=some (some v)/\Rep K H0 d v
 nod:∀i,(A i).Nodup
 dis:∀i j a,i≠j->a∈A i->a∉A j
 new:∀i a,a∈A i->F a=none/\H0 a=none/\∃xs,H a=some xs/\imm xs=false
def Xf1 (K:Frag)(F0 H0 F H:Hp)(Y:St)(δ:Dst):Prop:=∃A,ER K F0 H0 F H Y δ A
section
variable {K:Frag}{F0 H0 F H F' H':Hp}{Y:St}{δ:Dst}{A:Nat->List Addr}
theorem ER.on (e:ER K F0 H0 F H Y δ A)(x:Ext F H F' H'):ER K F0 H0 F' H' Y δ A where
 len:=e.len
 ext:=e.ext.trans x
 own:=λi t h=>by
  obtain⟨v,h1,h2⟩:=e.own i t h
  exact⟨v,h1,h2.frame x.ff λa _ xs z=>x.hh _ _ z⟩
 bw:=e.bw
 nod:=e.nod
 dis:=e.dis
 new:=λi a ha=>by
  obtain⟨h1,h2,xs,h3,h4⟩:=e.new i a ha
  exact⟨x.no a _ h1 h3 h4,h2,xs,x.hh _ _ h3,h4⟩
theorem Xf1.on (e:Xf1 K F0 H0 F H Y δ)(x:Ext F H F' H'):Xf1 K F0 H0 F' H' Y δ:=let⟨A,e⟩:=e;⟨A,e.on x⟩
theorem Xf1.ext (e:Xf1 K F0 H0 F H Y δ):Ext F0 H0 F H:=let⟨_,e⟩:=e;e.ext
theorem Xf1.put (e:Xf1 K F0 H0 F H Y δ)(x:Ext F H F' H')(i:Nat){r:OV}{v:V}(h:Xno K H F' H' r v):Xf1 K F0 H0 F' H' (Y.set i (some v)) (δ.set i (some (.own r))):=by
 obtain⟨A,e⟩:=e
 obtain⟨B,b1,b2,b3⟩:=h
 have e':=e.on x
 refine⟨λj=>if j=i then B else A j,by simp[e.len],e'.ext,λj t hj=>?_,λj d hj=>?_,λj=>?_,λj k a hjk h1 h2=>?_,λj a ha=>?_⟩
 .try dsimp only
  by_cases z:j=i
  .subst z
   rw[if_pos rfl]
   have hl:j<δ.length:=by
    have:=(List.getElem?_eq_some_iff.mp hj).1
    rwa[length_set]at this
   rw[getElem?_set_self hl]at hj
   cases hj
   exact⟨v,getElem?_set_self (by rw[e.len];exact hl),b1⟩
  .rw [if_neg z]
   rw[getElem?_set_ne (Ne.symm z)]at hj ⊢
   exact e'.own j t hj
 .by_cases z:j=i
  .subst z
   have hl:j<δ.length:=by
    have:=(List.getElem?_eq_some_iff.mp hj).1
    rwa[length_set]at this
   rw[getElem?_set_self hl]at hj
   cases hj
  .rw [getElem?_set_ne (Ne.symm z)]at hj ⊢
   exact e'.bw j d hj
 .try dsimp only
  split
  .exact b2
  .exact e.nod j
 .try dsimp only at h1 h2
  have key:∀k,a∈B->a∈A k->False:=λk z1 z2=>by
   obtain⟨_,_,xs,q,_⟩:=e.new k a z2
   rw[(b3 a z1).1]at q;cases q
  split at h1
  .split at h2
   .omega
   .exact key _ h1 h2
  .split at h2
   .exact key _ h2 h1
   .exact e.dis j k a hjk h1 h2
 .try dsimp only at ha
  split at ha
  .exact ⟨(b3 a ha).2,e.ext.hh.free (b3 a ha).1,b1.isl a ha⟩
  .exact e'.new j a ha
theorem ER.putFz (e:ER K F0 H0 F H Y δ A)(i:Nat){d:D}{v:V}(h:Rep K F d v):ER K F0 H0 F H (Y.set i (some v)) (δ.set i (some (.own (.fz d)))) (λj=>if j=i then [] else A j):=by
 refine⟨by simp[e.len],e.ext,λj t hj=>?_,λj d hj=>?_,λj=>?_,λj k a hjk h1 h2=>?_,λj a ha=>?_⟩
 .try dsimp only
  by_cases z:j=i
  .subst z
   rw[if_pos rfl]
   have hl:j<δ.length:=by
    have:=(List.getElem?_eq_some_iff.mp hj).1
    rwa[length_set]at this
   rw[getElem?_set_self hl]at hj
   cases hj
   exact⟨v,getElem?_set_self (by rw[e.len];exact hl),rfl,h⟩
  .rw [if_neg z]
   rw[getElem?_set_ne (Ne.symm z)]at hj ⊢
   exact e.own j t hj
 .by_cases z:j=i
  .subst z
   have hl:j<δ.length:=by
    have:=(List.getElem?_eq_some_iff.mp hj).1
    rwa[length_set]at this
   rw[getElem?_set_self hl]at hj
   cases hj
  .rw [getElem?_set_ne (Ne.symm z)]at hj ⊢
   exact e.bw j d hj
 .try dsimp only
  split
  .exact nodup_nil
  .exact e.nod j
 .try dsimp only at h1 h2
  split at h1
  .cases h1
  .split at h2
   .cases h2
   .exact e.dis j k a hjk h1 h2
 .try dsimp only at ha
  split at ha
  .cases ha
  .exact e.new j a ha
end
abbrev DE:=Dst->(D->Prop)->Prop
abbrev DO:=Dst->(OV->Prop)->Prop
abbrev DA:=Dst->(List D->Prop)->Prop
abbrev DAO:=Dst->(List OV->Prop)->Prop
abbrev DT:=Dst->(Bool->Prop)->Prop
structure DEnds where
 nx:Dst->Prop
 rt:OV->Prop
 bk:Dst->Prop:=λ_=>False
 ct:Dst->Prop:=λ_=>False
abbrev DS:=DEnds->Dst->Prop
section
variable (K:Frag)
def Xjx (t:TE)(E:DO):Prop:=∀F0 H0 F H Y δ P Q,Xf1 K F0 H0 F H Y δ->E δ P->(∀r v F' H',P r->Ext F H F' H'->Xno K H F' H' r v->Q v H')->t Y H Q
def Xeh (t:TE)(E:DE):Prop:=∀F0 H0 F H Y δ P Q,Xf1 K F0 H0 F H Y δ->E δ P->(∀d v F' H',P d->Ext F H F' H'->Rep K F' d v->Q v H')->t Y H Q
def Xgi (t:TE)(E:DE):Prop:=∀F0 H0 F H Y δ P Q,Xf1 K F0 H0 F H Y δ->E δ P->(∀d v F' H',P d->Ext F H F' H'->Rep K H' d v->Q v H')->t Y H Q
def Xtp (t:TT)(C:DT):Prop:=∀F0 H0 F H Y δ P Q,Xf1 K F0 H0 F H Y δ->C δ P->(∀b F' H',P b->Ext F H F' H'->Q b H')->t Y H Q
def Xk7 (t:TA)(E:DA):Prop:=∀F0 H0 F H Y δ P Q,Xf1 K F0 H0 F H Y δ->E δ P->(∀ds vs F' H',P ds->Ext F H F' H'->Xb4 K F' ds vs->Q vs H')->t Y H Q
def Xn8 (t:TA)(E:DA):Prop:=∀F0 H0 F H Y δ P Q,Xf1 K F0 H0 F H Y δ->E δ P->(∀ds vs F' H',P ds->Ext F H F' H'->Xb4 K H' ds vs->Q vs H')->t Y H Q
def Yl3 (H F' H':Hp)(rs:List OV)(vs:List V):Prop:=∃A,Xa7 K F' H' rs vs A/\A.Nodup/\∀a∈A,H a=none/\F' a=none
def Ycb (t:TA)(E:DAO):Prop:=∀F0 H0 F H Y δ P Q,Xf1 K F0 H0 F H Y δ->E δ P->(∀rs vs F' H',P rs->Ext F H F' H'->Yl3 K H F' H' rs vs->Q vs H')->t Y H Q
structure Lk (F0 H0:Hp) (De:DEnds) (E:Ends):Prop where
 nx:∀F H Y δ,Xf1 K F0 H0 F H Y δ->De.nx δ->E.nx Y H
 bk:∀F H Y δ,Xf1 K F0 H0 F H Y δ->De.bk δ->E.bk Y H
 ct:∀F H Y δ,Xf1 K F0 H0 F H Y δ->De.ct δ->E.ct Y H
 rt:∀F H r v,Ext F0 H0 F H->Xno K H0 F H r v->De.rt r->E.rt v H
def Xeg (t:TS)(T:DS):Prop:=∀F0 H0 F H Y δ De E,Xf1 K F0 H0 F H Y δ->Lk K F0 H0 De E->T De δ->t E Y H
def Yhf (g:TG)(G:D->Dst->(Dst->Prop)->Prop):Prop:=∀F0 H0 F H Y δ A d v P Q,ER K F0 H0 F H Y δ A->Rep K F d v->G d δ P->(∀Y' δ' A',P δ'->ER K F0 H0 F H Y' δ' A'->(∀i a,a∈A' i->a∈A i)->Q Y' H)->g v Y H Q
def Yca (g:TGs)(G:List D->Dst->(Dst->Prop)->Prop):Prop:=∀F0 H0 F H Y δ A ds vs P Q,ER K F0 H0 F H Y δ A->Xb4 K F ds vs->G ds δ P->(∀Y' δ' A',P δ'->ER K F0 H0 F H Y' δ' A'->(∀i a,a∈A' i->a∈A i)->Q Y' H)->g vs Y H Q
end
section
variable {K:Frag}{t ta tb tc:TE}{E Ea Eb Ec:DE}
def dFz (E:DE):DO:=λδ P=>E δ λd=>P (.fz d)
def Ymy (E:DO):DE:=λδ P=>E δ λr=>P r.val
theorem Xaq (h:Xeh K t E):Xgi K t E:=λF0 H0 F H Y δ P Q e w q=>h F0 H0 F H Y δ P Q e w λd v F' H' p x r=>q d v F' H' p x (r.mono x.fh)
theorem Xbf (h:Xeh K t E):Xjx K t (dFz E):=λF0 H0 F H Y δ P Q e w q=>h F0 H0 F H Y δ _ Q e w λd v F' H' p x r=>q _ v F' H' p x (.fz r)
theorem Xb8 {E:DO}(h:Xjx K t E):Xeh K t (Ymy E):=λF0 H0 F H Y δ P Q e w q=>h F0 H0 F H Y δ _ Q e w λd v F' H' p x r=>by
 obtain⟨F'',x',_,r'⟩:=r.frz x
 exact q _ v F'' H' p x' r'
mutual
def D.lf:D->Bool
 | .tup ds=>D.lfs ds
 | .lst _=>false
 | .dic=>false
 | .exc _=>false
 | .obj _ _ _=>false
 |_=>true
def D.lfs:List D->Bool
 | []=>true
 |d::ds=>d.lf && D.lfs ds
end
def Xti (F H:Hp):Hp:=λa=>match F a with
 |some o=>some o
 |none=>match H a with
  |some o=>if imm o=true then some o else none
  |none=>none
theorem Xhe {F H:Hp}(s:Xbi F H):Ext F H (Xti F H) H:=by
 refine⟨λb o e=>?_,Xbi.refl _,λb o e=>?_,λa o e1 e2 e3=>?_⟩
 .unfold Xti;rw[e]
 .unfold Xti at e
  cases q:F b with
  |some o'=>rw[q]at e;rw[<- e];exact s _ _ q
  |none=>
   rw[q]at e
   cases q2:H b with
   |none=>rw[q2]at e;cases e
   |some o'=>
    rw[q2]at e
    dsimp only at e
    split at e
    .exact e
    .cases e
 .unfold Xti;rw[e1,e2]
  dsimp only
  rw[e3];rfl
theorem Xur {F H:Hp}(s:Xbi F H){a:Addr}{o:HO}(h:H a=some o)(hi:imm o=true):Xti F H a=some o:=by
 unfold Xti
 cases q:F a with
 |some o'=>rw[s _ _ q]at h;exact h
 |none=>rw[h];dsimp only;rw[hi];rfl
theorem Xzg {F H:Hp}(s:Xbi F H){a:Addr}{xs:List V}(h:SqT K H a xs):SqT K (Xti F H) a xs:=by
 rcases h with (h | ⟨o,h⟩) |h
 .exact .inl (.inl (Xur s h rfl))
 .exact .inl (.inr ⟨o,Xur s h rfl⟩)
 .exact .inr h
mutual
theorem Rep.lf {F H:Hp}(s:Xbi F H):∀{d:D} {v:V},Rep K H d v->d.lf=true->Rep K (Xti F H) d v
 | .int _,_,h,_=>h
 | .bl _,_,h,_=>h
 | .non,_,h,_=>h
 | .str _,_,h,_=>h
 | .ty _,_,h,_=>h
 | .fn _,_,h,_=>h
 | .tup ds,v,h,z=>by
  obtain⟨a,vs,e,h1,h2⟩:=h
  exact⟨a,vs,e,Xzg s h1,Xb4.lf s h2 (by simpa[D.lf] using z)⟩
 | .lst ds,v,h,z=>by simp[D.lf]at z
 | .dic,v,h,z=>by simp[D.lf]at z
 | .exc _,v,h,z=>by simp[D.lf]at z
 | .obj _ _ _,v,h,z=>by simp[D.lf]at z
theorem Xb4.lf {F H:Hp}(s:Xbi F H):∀{ds:List D} {vs:List V},Xb4 K H ds vs->D.lfs ds=true->Xb4 K (Xti F H) ds vs
 | [],_,h,_=>h
 |d::ds,vs,h,z=>by
  obtain⟨v,r,e,h1,h2⟩:=h
  simp[D.lfs]at z
  exact⟨v,r,e,Rep.lf s h1 z.1,Xb4.lf s h2 z.2⟩
end
theorem D.lfs_eq:∀(ds:List D),D.lfs ds=ds.all D.lf
 | []=>rfl
 |d::ds=>by simp[D.lfs,D.lfs_eq ds]
def dLf (E:DE):DE:=λδ P=>E δ λd=>d.lf=true/\P d
theorem Yew (h:Xgi K t E):Xeh K t (dLf E):=λF0 H0 F H Y δ P Q e w q=>h F0 H0 F H Y δ _ Q e w λd v F' H' p x r=>
 q d v _ H' p.2 (x.trans (Xhe x.fh)) (Rep.lf x.fh r p.1)
def dV (i:Nat):DE:=λδ P=>match δ[i]? with
 |some (some (.own (.fz d)))=>P d
 |some (some (.own (.fx _ d)))=>P d
 |_=>False
def dB (i:Nat):DE:=λδ P=>match δ[i]? with
 |some (some (.own t))=>P t.val
 |some (some (.bw d))=>P d
 |_=>False
theorem Xah {i:Nat}:Xeh K (Xnr i) (dV i):=λF0 H0 F H Y δ P Q ⟨A,e⟩ w q=>by
 unfold dV at w
 split at w
 .rename_i d hd
  obtain⟨v,h1,h2⟩:=e.own i _ hd
  exact⟨v,h1,q d v F H w (Ext.refl e.ext.fh) h2.2⟩
 .rename_i u d hd
  obtain⟨v,h1,h2⟩:=e.own i _ hd
  exact⟨v,h1,q d v F H w (Ext.refl e.ext.fh) h2.2.2⟩
 .exact w.elim
theorem Xae {i:Nat}:Xgi K (Xnr i) (dB i):=λF0 H0 F H Y δ P Q ⟨A,e⟩ w q=>by
 unfold dB at w
 split at w
 .rename_i t hd
  obtain⟨v,h1,h2⟩:=e.own i _ hd
  exact⟨v,h1,q _ v F H w (Ext.refl e.ext.fh) (h2.rep e.ext.fh λa _ xs z=>z)⟩
 .rename_i d hd
  obtain⟨v,h1,h2⟩:=e.bw i _ hd
  exact⟨v,h1,q _ v F H w (Ext.refl e.ext.fh) (h2.mono e.ext.hh)⟩
 .exact w.elim
def dC (d:D):DE:=λ_ P=>P d
theorem Yia {v:V}{d:D}(h:∀F,Rep K F d v):Xeh K (tC v) (dC d):=λF0 H0 F H Y δ P Q e w q=>q d v F H w (Ext.refl e.ext.fh) (h _)
theorem Xai {i:Int}:Xeh K (tC (.int i)) (dC (.int i)):=Yia λ_=>rfl
theorem Xmu {b:Bool}:Xeh K (tC (.bl b)) (dC (.bl b)):=Yia λ_=>rfl
theorem Xxp:Xeh K (tC .non) (dC .non):=Yia λ_=>rfl
theorem Xbk {x:Str}:Xeh K (tC (.str x)) (dC (.str x)):=Yia λ_=>rfl
theorem Xks {n:String}:Xeh K (tC (.ty n)) (dC (.ty n)):=Yia λ_=>rfl
abbrev DR2:=D->D->(D->Prop)->Prop
def OpS (K:Frag)(R:R2)(r:DR2):Prop:=∀F H x y v u P Q,Xbi F H->Rep K H x v->Rep K H y u->r x y P->(∀d w F' H',P d->Ext F H F' H'->Rep K F' d w->Q w H')->R v u H Q
def OpB (K:Frag)(R:R2)(r:DR2):Prop:=∀H x y v u P Q,Rep K H x v->Rep K H y u->r x y P->(∀d w,P d->Rep K H d w->Q w H)->R v u H Q
def dOp (r:DR2)(Ea Eb:DE):DE:=λδ P=>Ea δ λx=>Eb δ λy=>r x y P
theorem Xas {R:R2}{r:DR2}(h:OpS K R r)(ha:Xgi K ta Ea)(hb:Xgi K tb Eb):Xeh K (tOp R ta tb) (dOp r Ea Eb):=λF0 H0 F H Y δ P Q e w q=>
 ha F0 H0 F H Y δ _ _ e w λx v F1 H1 w1 x1 r1=>hb F0 H0 F1 H1 Y δ _ _ (e.on x1) w1 λy u F2 H2 w2 x2 r2=>
  h F2 H2 x y v u P _ x2.fh (r1.mono x2.hh) r2 w2 λd w F' H' p x' r'=>q d w F' H' p (x1.trans (x2.trans x')) r'
theorem Xca {R:R2}{r:DR2}(h:OpB K R r)(ha:Xgi K ta Ea)(hb:Xgi K tb Eb):Xgi K (tOp R ta tb) (dOp r Ea Eb):=λF0 H0 F H Y δ P Q e w q=>
 ha F0 H0 F H Y δ _ _ e w λx v F1 H1 w1 x1 r1=>hb F0 H0 F1 H1 Y δ _ _ (e.on x1) w1 λy u F2 H2 w2 x2 r2=>
  h H2 x y v u P _ (r1.mono x2.hh) r2 w2 λd w p r'=>q d w F2 H2 p (x1.trans x2) r'
def rI2 (g:Int->Int->D):DR2:=λx y P=>match x,y with
 | .int i,.int j=>P (g i j)
 |_,_=>False
def Yij (C:Int->Int->Prop)(g:Int->Int->D):DR2:=λx y P=>match x,y with
 | .int i,.int j=>C i j/\P (g i j)
 |_,_=>False
theorem Xxw {g:Int->Int->D}{x y:D}{P:D->Prop}(h:rI2 g x y P):∃i j,x = .int i/\y = .int j/\P (g i j):=by
 unfold rI2 at h
 split at h
 .exact ⟨_,_,rfl,rfl,h⟩
 .exact h.elim
theorem Ya1 {C:Int->Int->Prop}{g:Int->Int->D}{x y:D}{P:D->Prop}(h:Yij C g x y P):∃i j,x = .int i/\y = .int j/\C i j/\P (g i j):=by
 unfold Yij at h
 split at h
 .exact ⟨_,_,rfl,rfl,h.1,h.2⟩
 .exact h.elim
theorem Yi5 {g:Int->Int->V}{g':Int->Int->D}(hg:∀F i j,Rep K F (g' i j) (g i j)):OpS K (rI0 g) (rI2 g'):=λF H x y v u P Q s rx ry w q=>by
 obtain⟨i,j,rfl,rfl,p⟩:=Xxw w
 exact⟨i,j,rx,ry,q _ _ F H p (Ext.refl s) (hg _ _ _)⟩
theorem Ynm {C:Int->Int->Prop}{g:Int->Int->V}{g':Int->Int->D}(hg:∀F i j,Rep K F (g' i j) (g i j)):OpS K (rI C g) (Yij C g'):=λF H x y v u P Q s rx ry w q=>by
 obtain⟨i,j,rfl,rfl,c,p⟩:=Ya1 w
 exact⟨i,j,rx,ry,c,q _ _ F H p (Ext.refl s) (hg _ _ _)⟩
theorem Xc1 {g:Int->Int->Int}:OpS K (rI0 λi j=>.int (g i j)) (rI2 λi j=>.int (g i j)):=Yi5 λ_ _ _=>rfl
theorem Xey {C:Int->Int->Prop}{g:Int->Int->Int}:OpS K (rI C λi j=>.int (g i j)) (Yij C λi j=>.int (g i j)):=Ynm λ_ _ _=>rfl
theorem Xhu {g:Int->Int->Bool}:OpS K (rI0 λi j=>.bl (g i j)) (rI2 λi j=>.bl (g i j)):=Yi5 λ_ _ _=>rfl
def Ylf:DR2:=λx y P=>match x,y with
 | .int i,.int j=>P (.bl (decide (i=j)))
 | .str i,.str j=>P (.bl (decide (i=j)))
 | .bl i,.bl j=>P (.bl (decide (i=j)))
 |_,_=>False
def Ylc:DR2:=λx y P=>match x,y with
 | .int i,.int j=>P (.bl (!decide (i=j)))
 | .str i,.str j=>P (.bl (!decide (i=j)))
 | .bl i,.bl j=>P (.bl (!decide (i=j)))
 |_,_=>False
theorem Yce {i j:Int}:decide (V.int i=V.int j)=decide (i=j):=by
 by_cases h:i=j
 .subst h;simp
 .rw [decide_eq_false h,decide_eq_false λz=>h (by injection z)]
theorem Ycd {i j:Str}:decide (V.str i=V.str j)=decide (i=j):=by
 by_cases h:i=j
 .subst h;simp
 .rw [decide_eq_false h,decide_eq_false λz=>h (by injection z)]
theorem Yhi {i j:Bool}:decide (V.bl i=V.bl j)=decide (i=j):=by
 by_cases h:i=j
 .subst h;simp
 .rw [decide_eq_false h,decide_eq_false λz=>h (by injection z)]
theorem Xi2:OpS K rEq Ylf:=λF H x y v u P Q s rx ry w q=>by
 unfold Ylf at w
 split at w
 .cases rx;cases ry;exact⟨rfl,by rw[Yce];exact q _ _ F H w (Ext.refl s) rfl⟩
 .cases rx;cases ry;exact⟨rfl,by rw[Ycd];exact q _ _ F H w (Ext.refl s) rfl⟩
 .cases rx;cases ry;exact⟨rfl,by rw[Yhi];exact q _ _ F H w (Ext.refl s) rfl⟩
 .exact w.elim
theorem Xru:OpS K rNe Ylc:=λF H x y v u P Q s rx ry w q=>by
 unfold Ylc at w
 split at w
 .cases rx;cases ry;exact⟨rfl,by rw[Yce];exact q _ _ F H w (Ext.refl s) rfl⟩
 .cases rx;cases ry;exact⟨rfl,by rw[Ycd];exact q _ _ F H w (Ext.refl s) rfl⟩
 .cases rx;cases ry;exact⟨rfl,by rw[Yhi];exact q _ _ F H w (Ext.refl s) rfl⟩
 .exact w.elim
def D.isNon:D->Bool
 | .non=>true
 |_=>false
def Yld:DR2:=λx y P=>match y with
 | .non=>P (.bl x.isNon)
 |_=>False
def Yfc:DR2:=λx y P=>match y with
 | .non=>P (.bl (!x.isNon))
 |_=>False
theorem Xr4 {F:Hp}:∀{x:D} {v:V},Rep K F x v->decide (v = .non)=x.isNon
 | .int _,_,h=>by rw[show _=V.int _ from h];rfl
 | .bl _,_,h=>by rw[show _=V.bl _ from h];rfl
 | .non,_,h=>by rw[show _=V.non from h];rfl
 | .str _,_,h=>by rw[show _=V.str _ from h];rfl
 | .ty _,_,h=>by rw[show _=V.ty _ from h];rfl
 | .fn _,_,h=>by obtain⟨f,rfl,_⟩:=h;rfl
 | .tup _,_,h=>by obtain⟨a,vs,rfl,_⟩:=h;rfl
 | .lst _,_,h=>by obtain⟨a,vs,rfl,_⟩:=h;rfl
 | .dic,_,h=>by obtain⟨a,rfl,_⟩:=h;rfl
 | .exc _,_,h=>by obtain⟨a,C,rfl,_⟩:=h;rfl
 | .obj _ _ _,_,h=>by obtain⟨a,C,dx,vs,rfl,_⟩:=h;rfl
theorem Yi3:OpS K (λx y H Q=>y = .non/\Q (.bl (decide (x = .non))) H) Yld:=λF H x y v u P Q s rx ry w q=>by
 unfold Yld at w
 split at w
 .refine ⟨ry,?_⟩
  rw[Xr4 rx]
  exact q _ _ F H w (Ext.refl s) rfl
 .exact w.elim
theorem Yfv:OpS K (λx y H Q=>y = .non/\Q (.bl (!decide (x = .non))) H) Yfc:=λF H x y v u P Q s rx ry w q=>by
 unfold Yfc at w
 split at w
 .refine ⟨ry,?_⟩
  rw[Xr4 rx]
  exact q _ _ F H w (Ext.refl s) rfl
 .exact w.elim
def dUn (r:D->(D->Prop)->Prop)(Ea:DE):DE:=λδ P=>Ea δ λx=>r x P
def rU1 (g:Int->D):D->(D->Prop)->Prop:=λx P=>match x with
 | .int i=>P (g i)
 |_=>False
theorem Xxq {g:Int->Int}(ha:Xgi K ta Ea):Xeh K (tUn (rU λi=>.int (g i)) ta) (dUn (rU1 λi=>.int (g i)) Ea):=λF0 H0 F H Y δ P Q e w q=>
 ha F0 H0 F H Y δ _ _ e w λx v F1 H1 w1 x1 r1=>by
  unfold rU1 at w1
  split at w1
  .exact ⟨_,r1,q _ _ F1 H1 w1 x1 rfl⟩
  .exact w1.elim
def dTb (E:DE):DT:=λδ P=>E δ λd=>match d with
 | .bl b=>P b
 |_=>False
theorem Yh1 (h:Xeh K t E):∀(F0 H0 F H:Hp) (Y:St) (δ:Dst) (P:Bool->Prop) (Q:Bool->Hp->Prop),Xf1 K F0 H0 F H Y δ->dTb E δ P->(∀b F' H',P b->Ext F H F' H'->Q b H')->t Y H λx H'=>∃k,x = .bl k/\Q k H':=λF0 H0 F H Y δ P Q e w q=>
 h F0 H0 F H Y δ _ _ e w λd v F' H' p x r=>by
  try dsimp only at p
  split at p
  .exact ⟨_,r,q _ F' H' p x⟩
  .exact p.elim
theorem Xbd (h:Xeh K t E):Xtp K (Yhm t) (dTb E):=Yh1 h
theorem Xkm (h:Xeh K t E):Xtp K (tB t) (dTb E):=Yh1 h
section
variable {ua ub:TT}{Ca Cb:DT}
def Ym3 (C:DT):DT:=λδ P=>C δ λb=>P (!b)
def Yna (Ca Cb:DT):DT:=λδ P=>Ca δ λb=>if b=true then Cb δ P else P false
def dOr (Ca Cb:DT):DT:=λδ P=>Ca δ λb=>if b=true then P true else Cb δ P
theorem Xdi (h:Xtp K ua Ca):Xtp K (Yl9 ua) (Ym3 Ca):=λF0 H0 F H Y δ P Q e w q=>h F0 H0 F H Y δ _ _ e w λb F' H' p x=>q _ F' H' p x
theorem Xxd (h:Xtp K ua Ca)(g:Xtp K ub Cb):Xtp K (Ymd ua ub) (Yna Ca Cb):=λF0 H0 F H Y δ P Q e w q=>h F0 H0 F H Y δ _ _ e w λb F' H' p x=>by
 cases b with
 |true=>exact Ydj (g F0 H0 F' H' Y δ P Q (e.on x) p λb F2 H2 p2 x2=>q b F2 H2 p2 (x.trans x2))
 |false=>exact Ydk rfl (q _ F' H' p x)
theorem Xkq (h:Xtp K ua Ca)(g:Xtp K ub Cb):Xtp K (tOr ua ub) (dOr Ca Cb):=λF0 H0 F H Y δ P Q e w q=>h F0 H0 F H Y δ _ _ e w λb F' H' p x=>by
 cases b with
 |true=>exact Ydj (q _ F' H' p x)
 |false=>exact Ydk rfl (g F0 H0 F' H' Y δ P Q (e.on x) p λb F2 H2 p2 x2=>q b F2 H2 p2 (x.trans x2))
def dIf (C:DT)(Ea Eb:DE):DE:=λδ P=>C δ λb=>if b=true then Ea δ P else Eb δ P
theorem Yex (h:Xtp K ua Ca)(ha:Xeh K ta Ea)(hb:Xeh K tb Eb):Xeh K (tIf ua ta tb) (dIf Ca Ea Eb):=λF0 H0 F H Y δ P Q e w q=>h F0 H0 F H Y δ _ _ e w λb F' H' p x=>by
 cases b with
 |true=>exact Ydj (ha F0 H0 F' H' Y δ P Q (e.on x) p λd v F2 H2 p2 x2 r=>q d v F2 H2 p2 (x.trans x2) r)
 |false=>exact Ydk rfl (hb F0 H0 F' H' Y δ P Q (e.on x) p λd v F2 H2 p2 x2 r=>q d v F2 H2 p2 (x.trans x2) r)
end
def Yki (Ea Eb:DE):DE:=λδ P=>Ea δ λx=>match x with
 | .bl c=>if c=true then Eb δ P else P (.bl false)
 |_=>False
def Yj7 (Ea:DE):DE:=λδ P=>Ea δ λx=>match x with
 | .bl c=>P (.bl (!c))
 |_=>False
theorem Xg7 (ha:Xeh K ta Ea)(hb:Xeh K tb Eb):Xeh K (Yhv ta tb) (Yki Ea Eb):=λF0 H0 F H Y δ P Q e w q=>ha F0 H0 F H Y δ _ _ e w λd v F' H' p x r=>by
 try dsimp only at p
 split at p
 .rename_i c
  refine⟨c,r,?_⟩
  cases c with
  |true=>exact Ydj (hb F0 H0 F' H' Y δ P Q (e.on x) p λd v F2 H2 p2 x2 r=>q d v F2 H2 p2 (x.trans x2) r)
  |false=>exact Ydk rfl (q _ _ F' H' p x rfl)
 .exact p.elim
theorem Xxn (ha:Xeh K ta Ea):Xeh K (Yhp ta) (Yj7 Ea):=λF0 H0 F H Y δ P Q e w q=>ha F0 H0 F H Y δ _ _ e w λd v F' H' p x r=>by
 try dsimp only at p
 split at p
 .exact ⟨_,r,q _ _ F' H' p x rfl⟩
 .exact p.elim
def Ydv (r r':DR2)(Ea Eb Ec:DE):DE:=λδ P=>Ea δ λx=>Eb δ λy=>r x y λz=>match z with
 | .bl k=>if k=true then Ec δ λw=>r' y w P else P (.bl false)
 |_=>False
theorem Yax {R R':R2}{r r':DR2}(h:OpS K R r)(h':OpS K R' r')(ha:Xgi K ta Ea)(hb:Xgi K tb Eb)(hc:Xgi K tc Ec):Xeh K (Ycm R R' ta tb tc) (Ydv r r' Ea Eb Ec):=λF0 H0 F H Y δ P Q e w q=>
 ha F0 H0 F H Y δ _ _ e w λx v F1 H1 w1 x1 r1=>hb F0 H0 F1 H1 Y δ _ _ (e.on x1) w1 λy u F2 H2 w2 x2 r2=>
  h F2 H2 x y v u _ _ x2.fh (r1.mono x2.hh) r2 w2 λd w F3 H3 p x3 r3=>by
   have x13:=x1.trans (x2.trans x3)
   try dsimp only at p
   split at p
   .rename_i k
    refine⟨k,r3,?_⟩
    cases k with
    |true=>exact Ydj (hc F0 H0 F3 H3 Y δ _ _ (e.on x13) p λz w4 F4 H4 p4 x4 r4=>h' F4 H4 y z u w4 P Q x4.fh (r2.mono (x3.hh.trans x4.hh)) r4 p4 λd w F5 H5 p5 x5 r5=>q d w F5 H5 p5 (x13.trans (x4.trans x5)) r5)
    |false=>exact Ydk rfl (q _ _ F3 H3 p x13 rfl)
   .exact p.elim
section
variable {a:TA}{As:DA}
def Ylw:DA:=λ_ P=>P []
def Ygu (Ea:DE)(As:DA):DA:=λδ P=>Ea δ λd=>As δ λds=>P (d::ds)
theorem Xam:Xn8 K Xqc Ylw:=λF0 H0 F H Y δ P Q e w q=>q [] [] F H w (Ext.refl e.ext.fh) rfl
theorem Xak:Xk7 K Xqc Ylw:=λF0 H0 F H Y δ P Q e w q=>q [] [] F H w (Ext.refl e.ext.fh) rfl
theorem Xaf (ha:Xgi K ta Ea)(hr:Xn8 K a As):Xn8 K (Xiz ta a) (Ygu Ea As):=λF0 H0 F H Y δ P Q e w q=>ha F0 H0 F H Y δ _ _ e w λd v F1 H1 w1 x1 r1=>
 hr F0 H0 F1 H1 Y δ _ _ (e.on x1) w1 λds vs F2 H2 w2 x2 r2=>q (d::ds) (v::vs) F2 H2 w2 (x1.trans x2) ⟨v,vs,rfl,r1.mono x2.hh,r2⟩
theorem Xab (ha:Xeh K ta Ea)(hr:Xk7 K a As):Xk7 K (Xiz ta a) (Ygu Ea As):=λF0 H0 F H Y δ P Q e w q=>ha F0 H0 F H Y δ _ _ e w λd v F1 H1 w1 x1 r1=>
 hr F0 H0 F1 H1 Y δ _ _ (e.on x1) w1 λds vs F2 H2 w2 x2 r2=>q (d::ds) (v::vs) F2 H2 w2 (x1.trans x2) ⟨v,vs,rfl,r1.mono x2.ff,r2⟩
def Yj9:DAO:=λ_ P=>P []
def Ydt (Ea:DO)(As:DAO):DAO:=λδ P=>Ea δ λd=>As δ λds=>P (d::ds)
theorem Xcz:Ycb K Xqc Yj9:=λF0 H0 F H Y δ P Q e w q=>q [] [] F H w (Ext.refl e.ext.fh) ⟨[],⟨rfl,rfl⟩,nodup_nil,λ_ h=>by cases h⟩
theorem Xde {Eo:DO}{Ao:DAO}(ha:Xjx K ta Eo)(hr:Ycb K a Ao):Ycb K (Xiz ta a) (Ydt Eo Ao):=λF0 H0 F H Y δ P Q e w q=>ha F0 H0 F H Y δ _ _ e w λd v F1 H1 w1 x1 r1=>
 hr F0 H0 F1 H1 Y δ _ _ (e.on x1) w1 λds vs F2 H2 w2 x2 r2=>q (d::ds) (v::vs) F2 H2 w2 (x1.trans x2) (by
  obtain⟨A,a1,a2,a3⟩:=r1
  obtain⟨B,b1,b2,b3⟩:=r2
  refine⟨A++B,⟨v,vs,A,B,rfl,rfl,a1.frame x2.ff λa _ xs e=>x2.hh _ _ e,b1⟩,nodup_append.mpr ⟨a2,b2,λx hx y hy z=>?_⟩,λz hz=>?_⟩
  .subst z
   obtain⟨xs,hxs,_⟩:=a1.isl _ hx
   rw[(b3 _ hy).1]at hxs;cases hxs
  .rcases mem_append.mp hz with h |h
   .obtain ⟨xs,hxs,hxi⟩:=a1.isl _ h
    exact⟨(a3 z h).1,x2.no z _ (a3 z h).2 hxs hxi⟩
   .exact ⟨x1.hh.free (b3 z h).1,(b3 z h).2⟩)
def Ymz (As:DA):DE:=λδ P=>As δ λds=>ds.length<=1000000/\P (.tup ds)
theorem Xcj {n:Nat}(h:n<=1000000):n<=sizeLine:=by rw[sizeLine_eq];omega
theorem Xwx {n:Nat}(h:n<1000000):n<sizeLine:=by rw[sizeLine_eq];omega
theorem Ext.new {F H H':Hp}{p:Addr}{o:HO}(s:Xbi F H)(hp:H p=none)(hs:Xbi H H')(h:H' p=some o):Ext F H (upd F p o) H':=by
 refine⟨λb u e=>?_,hs,λb u e=>?_,λb u e1 e2 e3=>?_⟩
 .rw [Xbv λz=>by rw[z,s.free hp]at e;cases e];exact e
 .by_cases hb:b=p
  .subst hb;rw[Xay]at e;rw[<- e];exact h
  .rw [Xbv hb]at e;exact hs _ _ (s _ _ e)
 .rw [Xbv λz=>by rw[z,hp]at e2;cases e2];exact e1
theorem Xbi.upd' {F:Hp}{p:Addr}{o:HO}(h:F p=none):Xbi F (upd F p o):=Xbi.new h
theorem Xdj (h:Xk7 K a As):Xeh K (Yhk a) (Ymz As):=λF0 H0 F H Y δ P Q e w q=>h F0 H0 F H Y δ _ _ e w λds vs F1 H1 w1 x1 r1=>by
 have hl:=r1.length
 refine⟨Xcj (by omega),λp H' hp hs he=>?_⟩
 exact q _ _ _ H' w1.2 (x1.trans (Ext.new x1.fh hp hs he)) ⟨p,vs,rfl,.inl (.inl Xay),r1.mono (Xbi.upd' (x1.fh.free hp))⟩
def Ym4 (As:DAO):DO:=λδ P=>As δ λts=>ts.length<=1000000/\P (.nl ts)
theorem Xee {Ao:DAO}(h:Ycb K a Ao):Xjx K (Yhs a) (Ym4 Ao):=λF0 H0 F H Y δ P Q e w q=>h F0 H0 F H Y δ _ _ e w λts vs F1 H1 w1 x1 r1=>by
 obtain⟨A,a1,a2,a3⟩:=r1
 have hl:=a1.length
 refine⟨Xcj (by omega),λp H' hp hs he=>?_⟩
 refine q _ _ F1 H' w1.2 (x1.trans ⟨Xbi.refl _,hs,x1.fh.trans hs,λ_ _ z _ _=>z⟩) ⟨p::A,⟨p,vs,A,rfl,rfl,he,a1.frame (Xbi.refl _) λb _ xs z=>hs _ _ z⟩,nodup_cons.mpr ⟨λz=>?_,a2⟩,λb hb=>?_⟩
 .obtain ⟨xs,z,_⟩:=a1.isl p z
  rw[hp]at z;cases z
 .rcases mem_cons.mp hb with rfl |hb
  .exact ⟨x1.hh.free hp,x1.fh.free hp⟩
  .exact a3 b hb
end
end
section
variable {K:Frag}{t ta tb tc:TE}{E Ea Eb Ec:DE}{a:TA}{As:DA}{Ao:DAO}
theorem Xb4.atI {F:Hp}{ds:List D}{vs:List V}{i:Int}{d:D}(h:Xb4 K F ds vs)(e:L2.atI ds i=some d):∃v,L2.atI vs i=some v/\Rep K F d v:=by
 unfold L2.atI at e ⊢
 rw[h.length]at e
 cases q:ixN vs.length i with
 |none=>rw[q]at e;cases e
 |some j=>
  rw[q]at e
  exact h.get e
def ixL:DR2:=λx y P=>match x,y with
 | .lst ds,.int i=>∃d,atI ds i=some d/\P d
 |_,_=>False
def ixT:DR2:=λx y P=>match x,y with
 | .tup ds,.int i=>∃d,atI ds i=some d/\P d
 |_,_=>False
def ixS:DR2:=λx y P=>match x,y with
 | .str z,.int i=>z.length<=1000000/\∃c,atI z.cps.toList i=some c/\P (.str ⟨#[c]⟩)
 |_,_=>False
def OpF (K:Frag)(R:R2)(r:DR2):Prop:=∀F H x y v u P Q,Xbi F H->Rep K F x v->Rep K F y u->r x y P->(∀d w,P d->Rep K F d w->Q w H)->R v u H Q
theorem OpF.b {R:R2}{r:DR2}(h:OpF K R r):OpB K R r:=λH x y v u P Q rx ry w q=>h H H x y v u P Q (Xbi.refl _) rx ry w q
theorem Xbs {R:R2}{r:DR2}(h:OpF K R r)(ha:Xeh K ta Ea)(hb:Xeh K tb Eb):Xeh K (tOp R ta tb) (dOp r Ea Eb):=λF0 H0 F H Y δ P Q e w q=>
 ha F0 H0 F H Y δ _ _ e w λx v F1 H1 w1 x1 r1=>hb F0 H0 F1 H1 Y δ _ _ (e.on x1) w1 λy u F2 H2 w2 x2 r2=>
  h F2 H2 x y v u P _ x2.fh (r1.mono x2.ff) r2 w2 λd w p r'=>q d w F2 H2 p (x1.trans x2) r'
theorem Xdh:OpF K (Ykv K) ixL:=λF H x y v u P Q s rx ry w q=>by
 unfold ixL at w
 split at w
 .obtain ⟨d,e,w⟩:=w
  obtain⟨p,vs,rfl,h1,h2⟩:=rx
  obtain⟨v',e',r⟩:=h2.atI e
  exact⟨p,vs,_,v',rfl,ry,s.seq h1,e',q d v' w r⟩
 .exact w.elim
theorem Xa8:OpF K (Ymn K) ixT:=λF H x y v u P Q s rx ry w q=>by
 unfold ixT at w
 split at w
 .obtain ⟨d,e,w⟩:=w
  obtain⟨p,vs,rfl,h1,h2⟩:=rx
  obtain⟨v',e',r⟩:=h2.atI e
  exact⟨p,vs,_,v',rfl,ry,s.seqT h1,e',q d v' w r⟩
 .exact w.elim
theorem Yi6:OpF K Ymo ixS:=λF H x y v u P Q s rx ry w q=>by
 unfold ixS at w
 split at w
 .obtain ⟨z,c,e,w⟩:=w
  exact⟨_,_,c,rx,ry,Xcj z,e,q _ _ w rfl⟩
 .exact w.elim
def CbS (K:Frag)(R:List V->Hp->VK->Prop)(r:List D->(D->Prop)->Prop):Prop:=∀F H ds vs P Q,Xbi F H->Xb4 K H ds vs->r ds P->(∀d w F' H',P d->Ext F H F' H'->Rep K F' d w->Q w H')->R vs H Q
def CbO (K:Frag)(R:List V->Hp->VK->Prop)(r:List D->(OV->Prop)->Prop):Prop:=∀F H ds vs P Q,Xbi F H->Xb4 K F ds vs->r ds P->(∀o w F' H',P o->Ext F H F' H'->Xno K H F' H' o w->Q w H')->R vs H Q
def dCB (r:List D->(D->Prop)->Prop)(As:DA):DE:=λδ P=>As δ λds=>r ds P
def Ym9 (r:List D->(OV->Prop)->Prop)(As:DA):DO:=λδ P=>As δ λds=>r ds P
theorem Xbh {R:List V->Hp->VK->Prop}{r:List D->(D->Prop)->Prop}(h:CbS K R r)(ha:Xn8 K a As):Xeh K (tCB R a) (dCB r As):=λF0 H0 F H Y δ P Q e w q=>
 ha F0 H0 F H Y δ _ _ e w λds vs F1 H1 w1 x1 r1=>h F1 H1 ds vs P _ x1.fh r1 w1 λd w F' H' p x' r'=>q d w F' H' p (x1.trans x') r'
theorem Xxk {R:List V->Hp->VK->Prop}{r:List D->(OV->Prop)->Prop}(h:CbO K R r)(ha:Xk7 K a As):Xjx K (tCB R a) (Ym9 r As):=λF0 H0 F H Y δ P Q e w q=>
 ha F0 H0 F H Y δ _ _ e w λds vs F1 H1 w1 x1 r1=>h F1 H1 ds vs P _ x1.fh r1 w1 λd w F' H' p x' r'=>q d w F' H' p (x1.trans x') (r'.old x1.hh)
theorem Xjm {F:Hp}{d:D}{vs:List V}(h:Xb4 K F [d] vs):∃v,vs=[v]/\Rep K F d v:=by
 obtain⟨v,r,rfl,h1,h2⟩:=h
 exact⟨v,by rw[show r=[] from h2],h1⟩
theorem Xxs {F:Hp}{d d':D}{vs:List V}(h:Xb4 K F [d,d'] vs):∃v u,vs=[v,u]/\Rep K F d v/\Rep K F d' u:=by
 obtain⟨v,r,rfl,h1,h2⟩:=h
 obtain⟨u,rfl,h3⟩:=Xjm h2
 exact⟨v,u,rfl,h1,h3⟩
def Yln:List D->(D->Prop)->Prop:=λds P=>match ds with
 | [.lst xs]=>P (.int xs.length)
 | [.tup xs]=>P (.int xs.length)
 |_=>False
def Ylm:List D->(D->Prop)->Prop:=λds P=>match ds with
 | [.str x]=>x.length<=1000000/\P (.int x.length)
 |_=>False
theorem Xdb:CbS K (λxs H Q=>∃p ys,xs=[.ref p]/\(SqL K H p ys∨SqT K H p ys)/\Q (.int ys.length) H) Yln:=λF H ds vs P Q s rs w q=>by
 unfold Yln at w
 split at w
 .obtain ⟨v,rfl,p,us,rfl,h1,h2⟩:=Xjm rs
  exact⟨p,us,rfl,.inl h1,by rw[<- h2.length];exact q _ _ F H w (Ext.refl s) rfl⟩
 .obtain ⟨v,rfl,p,us,rfl,h1,h2⟩:=Xjm rs
  exact⟨p,us,rfl,.inr h1,by rw[<- h2.length];exact q _ _ F H w (Ext.refl s) rfl⟩
 .exact w.elim
theorem Xeu:CbS K (λxs H Q=>∃z,xs=[.str z]/\z.length<=sizeLine/\Q (.int z.length) H) Ylm:=λF H ds vs P Q s rs w q=>by
 unfold Ylm at w
 split at w
 .obtain ⟨v,rfl,r⟩:=Xjm rs
  exact⟨_,by rw[show v=_ from r],Xcj w.1,q _ _ F H w.2 (Ext.refl s) rfl⟩
 .exact w.elim
def Yl1:List D->(D->Prop)->Prop:=λds P=>match ds with
 | [.int i]=>P (.int i.natAbs)
 |_=>False
theorem Yd0:CbS K (λxs H Q=>∃i,xs=[.int i]/\Q (.int (if i<0 then -i else i)) H) Yl1:=λF H ds vs P Q s rs w q=>by
 unfold Yl1 at w
 split at w
 .rename_i i
  obtain⟨v,rfl,r⟩:=Xjm rs
  refine⟨i,by rw[show v=_ from r],?_⟩
  rw[show (if i<0 then -i else i)=(i.natAbs:Int) by split<;>omega]
  exact q _ _ F H w (Ext.refl s) rfl
 .exact w.elim
def Yf6:List D->(OV->Prop)->Prop:=λds P=>match ds with
 | [.lst xs]=>P (.nl (xs.map .fz))
 | [.tup xs]=>P (.nl (xs.map .fz))
 |_=>False
theorem Xno.list {H F' H':Hp}{l:Addr}{ds:List D}{vs:List V}(h0:H l=none)(f0:F' l=none)(h:H' l=some (.lst vs))(r:Xb4 K F' ds vs):Xno K H F' H' (.nl (ds.map .fz)) (.ref l):=
 ⟨[l],⟨l,vs,[],rfl,rfl,h,Xa7.fzs r⟩,by simp,λa ha=>by
  have e:a=l:=by simpa using ha
  rw[e];exact⟨h0,f0⟩⟩
theorem Ext.grow {F H H':Hp}(s:Xbi F H)(h:Xbi H H'):Ext F H F H':=⟨Xbi.refl _,h,s.trans h,λ_ _ z _ _=>z⟩
theorem Ygy:CbO K (Yc1 K) Yf6:=λF H ds vs P Q s rs w q=>by
 unfold Yf6 at w
 split at w
 .obtain ⟨v,rfl,p,us,rfl,h1,h2⟩:=Xjm rs
  exact⟨p,us,rfl,.inl (s.seq h1),λl H' l0 sm l1=>q _ _ F H' w (Ext.grow s sm) (Xno.list l0 (s.free l0) l1 h2)⟩
 .obtain ⟨v,rfl,p,us,rfl,h1,h2⟩:=Xjm rs
  exact⟨p,us,rfl,.inr (s.seqT h1),λl H' l0 sm l1=>q _ _ F H' w (Ext.grow s sm) (Xno.list l0 (s.free l0) l1 h2)⟩
 .exact w.elim
def Ykz:List D->(OV->Prop)->Prop:=λds P=>match ds with
 | [.lst xs]=>P (.fz (.tup xs))
 |_=>False
theorem Xu0:CbO K (Xxv K) Ykz:=λF H ds vs P Q s rs w q=>by
 unfold Ykz at w
 split at w
 .obtain ⟨v,rfl,p,us,rfl,h1,h2⟩:=Xjm rs
  exact⟨p,us,rfl,s.seq h1,λl H' l0 sm l1=>q _ _ _ H' w (Ext.new s l0 sm l1) (.fz ⟨l,us,rfl,.inl (.inl Xay),h2.mono (Xbi.upd' (s.free l0))⟩)⟩
 .exact w.elim
abbrev DPt:=Dst->(Option Int->Prop)->Prop
def Yd1 (K:Frag)(t:TO)(E:DPt):Prop:=∀F0 H0 F H Y δ P Q,Xf1 K F0 H0 F H Y δ->E δ P->(∀o F' H',P o->Ext F H F' H'->Q o H')->t Y H Q
def Yj8:DPt:=λ_ P=>P none
def dPt (E:DE):DPt:=λδ P=>E δ λd=>match d with
 | .int i=>P (some i)
 |_=>False
theorem Xq1:Yd1 K Xwu Yj8:=λF0 H0 F H Y δ P Q e w q=>q none F H w (Ext.refl e.ext.fh)
theorem Xj6 (h:Xgi K t E):Yd1 K (Yho t) (dPt E):=λF0 H0 F H Y δ P Q e w q=>h F0 H0 F H Y δ _ _ e w λd v F1 H1 w1 x1 r1=>by
 try dsimp only at w1
 split at w1
 .exact ⟨_,r1,q _ F1 H1 w1 x1⟩
 .exact w1.elim
def Ydy (xs:List D)(lo hi:Option Int):List D:=(xs.drop (HT.sIx xs.length 0 lo)).take (HT.sIx xs.length xs.length hi-HT.sIx xs.length 0 lo)
theorem Xb4.cut {F:Hp}{ds:List D}{vs:List V}(h:Xb4 K F ds vs)(lo hi:Option Int):Xb4 K F (Ydy ds lo hi) (Yaf vs lo hi):=by
 unfold Ydy Yaf
 rw[h.length]
 exact (h.drop _).take _
def Ym2 (Ea:DE)(L U:DPt):DO:=λδ P=>Ea δ λx=>L δ λlo=>U δ λhi=>match x with
 | .lst xs=>P (.nl ((Ydy xs lo hi).map .fz))
 |_=>False
theorem Ycu {tl tu:TO}{L U:DPt}(ha:Xeh K ta Ea)(hl:Yd1 K tl L)(hu:Yd1 K tu U):Xjx K (tSl (Yml K) ta tl tu) (Ym2 Ea L U):=λF0 H0 F H Y δ P Q e w q=>
 ha F0 H0 F H Y δ _ _ e w λx v F1 H1 w1 x1 r1=>hl F0 H0 F1 H1 Y δ _ _ (e.on x1) w1 λlo F2 H2 w2 x2=>hu F0 H0 F2 H2 Y δ _ _ ((e.on x1).on x2) w2 λhi F3 H3 w3 x3=>by
  have x13:=x1.trans (x2.trans x3)
  try dsimp only at w3
  split at w3
  .obtain ⟨p,vs,rfl,h1,h2⟩:=r1.mono (x2.ff.trans x3.ff)
   exact⟨p,vs,rfl,x3.fh.seq h1,λl H' l0 sm l1=>q _ _ F3 H' w3 (x13.trans (Ext.grow x3.fh sm)) (Xno.list (x13.hh.free l0) (x3.fh.free l0) l1 (h2.cut lo hi))⟩
  .exact w3.elim
mutual
def OV.lf:OV->Bool
 | .fz d=>d.lf
 | .nl ts=>OV.lfs ts
 | .rt _ ts=>OV.lfs ts
 | .fx _ d=>d.lf
 | .ob _ _ _ ts=>OV.lfs ts
def OV.lfs:List OV->Bool
 | []=>true
 |t::ts=>t.lf && OV.lfs ts
end
theorem OV.lfs_eq:∀(ts:List OV),OV.lfs ts=ts.all OV.lf
 | []=>rfl
 |d::ds=>by simp[OV.lfs,OV.lfs_eq ds]
mutual
theorem Xnn.lf {F F' H':Hp}(s:Xbi F F'):∀{t:OV} {v:V} {A:List Addr},Xnn K F' H' t v A->t.lf=true->Xnn K (Xti F F') H' t v A
 | .fz d,v,A,h,z=>⟨h.1,Rep.lf s h.2 (by simpa[OV.lf] using z)⟩
 | .nl ts,v,A,h,z=>by
  obtain⟨a,vs,B,e,e2,h1,h2⟩:=h
  exact⟨a,vs,B,e,e2,h1,Xa7.lf s h2 (by simpa[OV.lf] using z)⟩
 | .fx u d,v,A,h,z=>⟨h.1,h.2.1,Rep.lf s h.2.2 (by simpa[OV.lf] using z)⟩
 | .rt a ts,v,A,h,z=>by
  obtain⟨vs,B,e,e2,h1,h2⟩:=h
  exact⟨vs,B,e,e2,h1,Xa7.lf s h2 (by simpa[OV.lf] using z)⟩
 | .ob o c ns ts,v,A,h,z=>by
  obtain⟨a,C,dx,vs,B,e,e2,h0,ho,h1,h2,hl,h3⟩:=h
  exact⟨a,C,dx,vs,B,e,e2,h0,ho,h1,h2,hl,Xa7.lf s h3 (by simpa[OV.lf] using z)⟩
theorem Xa7.lf {F F' H':Hp}(s:Xbi F F'):∀{ts:List OV} {vs:List V} {A:List Addr},Xa7 K F' H' ts vs A->OV.lfs ts=true->Xa7 K (Xti F F') H' ts vs A
 | [],_,_,h,_=>h
 |t::ts,vs,A,h,z=>by
  obtain⟨v,r,B,C,e1,e2,h1,h2⟩:=h
  simp[OV.lfs]at z
  exact⟨v,r,B,C,e1,e2,Xnn.lf s h1 z.1,Xa7.lf s h2 z.2⟩
end
abbrev DSp:=List D->(OV->Prop)->Prop
def spV (K:Frag)(n:Nat)(sp:DSp):Sp:=spL n λvs H Q=>∃F ds P,Xbi F H/\Xb4 K F ds vs/\sp ds P/\∀r v F' H',P r->Ext F H F' H'->Xno K H F' H' r v->Q v H'
def Ykg (n:Nat)(sp:DSp)(As:DA):DO:=λδ P=>As δ λds=>ds.length=n/\sp ds P
def Ydw (n:Nat)(sp:DSp)(As:DA):DO:=λδ P=>As δ λds=>ds.length=n/\sp ds λr=>r.lf=true/\P r
theorem Xau {n:Nat}{sp:DSp}(ha:Xk7 K a As):Xjx K (Xww (spV K n sp) [] E0 a) (Ykg n sp As):=λF0 H0 F H Y δ P Q e w q=>ha F0 H0 F H Y δ _ _ e w λds vs F1 H1 w1 x1 r1=>by
 rw[append_nil]
 exact⟨by rw[<- r1.length];exact w1.1,F1,ds,P,x1.fh,r1,w1.2,λr v F' H' p x' r'=>q r v F' H' p (x1.trans x') (r'.old x1.hh)⟩
theorem Xj7 {n:Nat}{sp:DSp}(ha:Xn8 K a As):Xjx K (Xww (spV K n sp) [] E0 a) (Ydw n sp As):=λF0 H0 F H Y δ P Q e w q=>ha F0 H0 F H Y δ _ _ e w λds vs F1 H1 w1 x1 r1=>by
 rw[append_nil]
 refine⟨by rw[<- r1.length];exact w1.1,H1,ds,_,Xbi.refl _,r1,w1.2,λr v F' H' p x' r'=>?_⟩
 have s1:Xbi F1 F':=x1.fh.trans x'.ff
 have x2:=Xhe s1
 obtain⟨A,a1,a2,a3⟩:=r'
 refine q r v (Xti F1 F') H' p.2 (x1.trans ⟨x2.ff,x'.hh,x2.fh.trans x'.fh,λb o z1 z2 z3=>?_⟩) ⟨A,a1.lf s1 p.1,a2,λb hb=>⟨x1.hh.free (a3 b hb).1,x2.fh.free (a3 b hb).2⟩⟩
 exact x2.no b o z1 (x'.ff _ _ z2) z3
end
section
variable {K:Frag}{te ti ta:TE}{E Ea Ei:DE}{Eo:DO}{t u:TS}{T U:DS}
def Yh8:DS:=λDe δ=>De.nx δ
def Yku (T U:DS):DS:=λDe δ=>T {De with nx:=U De} δ
theorem Xba:Xeg K Yhq Yh8:=λF0 H0 F H Y δ De E e l w=>l.nx F H Y δ e w
theorem Xao (h:Xeg K t T)(g:Xeg K u U):Xeg K (Yk2 t u) (Yku T U):=λF0 H0 F H Y δ De E e l w=>
 h F0 H0 F H Y δ {De with nx:=U De} _ e ⟨λF1 H1 Y1 δ1 e1 w1=>g F0 H0 F1 H1 Y1 δ1 De E e1 l w1,l.bk,l.ct,l.rt⟩ w
def Ycy:DS:=λDe δ=>De.bk δ
theorem Yas:Xeg K Ycn Ycy:=λF0 H0 F H Y δ De E e l w=>l.bk F H Y δ e w
def Ymg (E:DO):DS:=λDe δ=>E δ De.rt
theorem Xa1 (h:Xjx K te Eo):Xeg K (Yk3 te) (Ymg Eo):=λF0 H0 F H Y δ De En e l w=>h F0 H0 F H Y δ _ _ e w λr v F' H' p x n=>l.rt F' H' r v (e.ext.trans x) (n.old e.ext.hh) p
def Yeq (i:Nat):DS:=λDe δ=>match δ[i]? with
 |some (some (.own t))=>De.rt t
 |_=>False
theorem Xmo {i:Nat}:Xeg K (Yk3 (Xnr i)) (Yeq i):=λF0 H0 F H Y δ De En ⟨A,e⟩ l w=>by
 unfold Yeq at w
 split at w
 .rename_i t ht
  obtain⟨v,h1,h2⟩:=e.own i t ht
  exact⟨v,h1,l.rt F H t v e.ext ⟨A i,h2,e.nod i,λa ha=>⟨(e.new i a ha).2.1,(e.new i a ha).1⟩⟩ w⟩
 .exact w.elim
def sIf (C:DT)(T U:DS):DS:=λDe δ=>C δ λb=>if b=true then T De δ else U De δ
theorem Xcg {c:TT}{C:DT}(h:Xtp K c C)(ht:Xeg K t T)(hu:Xeg K u U):Xeg K (Yk4 c t u) (sIf C T U):=λF0 H0 F H Y δ De En e l w=>h F0 H0 F H Y δ _ _ e w λb F' H' p x=>by
 cases b with
 |true=>exact Ydj (ht F0 H0 F' H' Y δ De En (e.on x) l p)
 |false=>exact Ydk rfl (hu F0 H0 F' H' Y δ De En (e.on x) l p)
def Ymf (i:Nat)(E:DO):DS:=λDe δ=>E δ λr=>De.nx (δ.set i (some (.own r)))
theorem Xa2 {i:Nat}(h:Xjx K te Eo):Xeg K (Yam te (Xtg i)) (Ymf i Eo):=λF0 H0 F H Y δ De En e l w=>h F0 H0 F H Y δ _ _ e w λr v F' H' p x n=>l.nx F' H' _ _ (e.put x i n) p
def Ymj (i:Nat)(r:DR2)(E:DE):DS:=λDe δ=>dV i δ λx=>E δ λy=>r x y λz=>De.nx (δ.set i (some (.own (.fz z))))
theorem Yh3 {i:Nat}{R:R2}{r:DR2}(ho:OpS K R r)(h:Xgi K te E):Xeg K (Ymc i te R) (Ymj i r E):=λF0 H0 F H Y δ De En e l w=>by
 obtain⟨v,hv,w⟩:=Xah (i:=i) F0 H0 F H Y δ _ (λv H'=>te Y H' λy H1=>R v y H1 λz H2=>En.nx (Y.set i (some z)) H2) e w λd v F1 H1 p x1 r1=>by
  exact h F0 H0 F1 H1 Y δ _ _ (e.on x1) p λy u F2 H2 p2 x2 r2=>ho F2 H2 d y v u _ _ x2.fh (r1.mono (x1.fh.trans x2.hh |> λs=>s)) r2 p2 λz w F3 H3 p3 x3 r3=>l.nx F3 H3 _ _ (((e.on x1).on x2).put x3 i (.fz r3)) p3
 exact⟨v,hv,w⟩
def gN (i:Nat):D->Dst->(Dst->Prop)->Prop:=λd δ P=>P (δ.set i (some (.own (.fz d))))
theorem Xa5 {i:Nat}:Yhf K (Xtg i) (gN i):=λF0 H0 F H Y δ A d v P Q e r w q=>q _ _ _ w (e.putFz i r) λj a ha=>by
 try dsimp only at ha
 split at ha
 .cases ha
 .exact ha
def Xy3:List D->Dst->(Dst->Prop)->Prop:=λds δ P=>match ds with
 | []=>P δ
 |_=>False
def Xr5 (G:D->Dst->(Dst->Prop)->Prop)(Gs:List D->Dst->(Dst->Prop)->Prop):List D->Dst->(Dst->Prop)->Prop:=λds δ P=>match ds with
 |d::r=>G d δ λδ'=>Gs r δ' P
 |_=>False
theorem Xpb:Yca K Ymw Xy3:=λF0 H0 F H Y δ A ds vs P Q e r w q=>by
 unfold Xy3 at w
 split at w
 .exact ⟨r,q _ _ A w e λ_ _ z=>z⟩
 .exact w.elim
theorem Xfd {g:TG}{gs:TGs}{G:D->Dst->(Dst->Prop)->Prop}{Gs:List D->Dst->(Dst->Prop)->Prop}(h:Yhf K g G)(hs:Yca K gs Gs):Yca K (Yju g gs) (Xr5 G Gs):=λF0 H0 F H Y δ A ds vs P Q e r w q=>by
 unfold Xr5 at w
 split at w
 .obtain ⟨v,r',rfl,h1,h2⟩:=r
  exact⟨v,r',rfl,h F0 H0 F H Y δ A _ v _ _ e h1 w λY' δ' A' w' e' sb=>hs F0 H0 F H Y' δ' A' _ r' P Q e' h2 w' λY2 δ2 A2 w2 e2 sb2=>q Y2 δ2 A2 w2 e2 λi a z=>sb i a (sb2 i a z)⟩
 .exact w.elim
def gT (n:Nat)(Gs:List D->Dst->(Dst->Prop)->Prop):D->Dst->(Dst->Prop)->Prop:=λd δ P=>match d with
 | .tup ds=>ds.length=n/\Gs ds δ P
 |_=>False
theorem Xt6 {n:Nat}{gs:TGs}{Gs:List D->Dst->(Dst->Prop)->Prop}(hs:Yca K gs Gs):Yhf K (Ymv K n gs) (gT n Gs):=λF0 H0 F H Y δ A d v P Q e r w q=>by
 unfold gT at w
 split at w
 .obtain ⟨a,vs,rfl,h1,h2⟩:=r
  exact⟨a,vs,rfl,e.ext.fh.seqT h1,by rw[<- h2.length];exact w.1,hs F0 H0 F H Y δ A _ vs P Q e h2 w.2 q⟩
 .exact w.elim
def Ymk (E:DE)(G:D->Dst->(Dst->Prop)->Prop):DS:=λDe δ=>E δ λd=>G d δ De.nx
theorem Yh4 {g:TG}{G:D->Dst->(Dst->Prop)->Prop}(h:Xeh K te E)(hg:Yhf K g G):Xeg K (Yam te g) (Ymk E G):=λF0 H0 F H Y δ De En e l w=>h F0 H0 F H Y δ _ _ e w λd v F' H' p x r=>
 let⟨A,e⟩:=e
 hg F0 H0 F' H' Y δ A d v _ _ (e.on x) r p λY' δ' A' w' e' _=>l.nx F' H' Y' δ' ⟨A',e'⟩ w'
theorem ER.change {F0 H0 F H H':Hp}{Y:St}{δ:Dst}{A:Nat->List Addr}(e:ER K F0 H0 F H Y δ A)(i:Nat){t':OV}{v:V}{B:List Addr}(hv:Y[i]?=some (some v))(hr:Xnn K F H' t' v B)(hB:B.Nodup)
  (hBn:∀b∈B,F b=none/\H0 b=none) (dj:∀j,j≠i->∀b∈B,b∉A j) (keep:∀b o,b∉A i->H b=some o->H' b=some o):Xf1 K F0 H0 F H' Y (δ.set i (some (.own t'))):=by
 have hi:i<δ.length:=by rw[<- e.len];exact (List.getElem?_eq_some_iff.mp hv).1
 refine⟨λj=>if j=i then B else A j,by simp[e.len],⟨e.ext.ff,λb o h=>?_,λb o h=>?_,e.ext.no⟩,λj t hj=>?_,λj d hj=>?_,λj=>?_,λj k a hjk h1 h2=>?_,λj a ha=>?_⟩
 .exact keep b o (λz=>by rw[(e.new i b z).2.1]at h;cases h) (e.ext.hh _ _ h)
 .exact keep b o (λz=>by rw[(e.new i b z).1]at h;cases h) (e.ext.fh _ _ h)
 .try dsimp only
  by_cases z:j=i
  .subst z
   rw[if_pos rfl]
   rw[getElem?_set_self hi]at hj
   cases hj
   exact⟨v,hv,hr⟩
  .rw [if_neg z]
   rw[getElem?_set_ne (Ne.symm z)]at hj
   obtain⟨u,h1,h2⟩:=e.own j t hj
   exact⟨u,h1,h2.frame (Xbi.refl _) λa ha xs h=>keep a _ (e.dis j i a z ha) h⟩
 .by_cases z:j=i
  .subst z
   rw[getElem?_set_self hi]at hj
   cases hj
  .rw [getElem?_set_ne (Ne.symm z)]at hj
   exact e.bw j d hj
 .try dsimp only
  split
  .exact hB
  .exact e.nod j
 .try dsimp only at h1 h2
  split at h1
  .split at h2
   .omega
   .rename_i z1 z2
    exact dj k z2 a h1 h2
  .split at h2
   .rename_i z1 z2
    exact dj j z1 a h2 h1
   .exact e.dis j k a hjk h1 h2
 .try dsimp only at ha
  split at ha
  .exact ⟨(hBn a ha).1,(hBn a ha).2,hr.isl a ha⟩
  .rename_i z
   obtain⟨h1,h2,xs,h3,himm⟩:=e.new j a ha
   exact⟨h1,h2,xs,keep a _ (e.dis j i a z ha) h3,himm⟩
def Yla (i:Nat)(E:DO):DS:=λDe δ=>match δ[i]? with
 |some (some (.own (.nl ts)))=>ts.length<1000000/\E δ λr=>De.nx (δ.set i (some (.own (.nl (ts++[r])))))
 |_=>False
theorem Xav {H:Hp}{a b:Addr}{o o':HO}(h:b≠a)(e:H b=some o'):upd H a o b=some o':=by rw[Xbv h];exact e
theorem Xxh {i:Nat}(h:Xjx K te Eo):Xeg K (Xqd (tBM K "list" rAppend (Xnr i) (Xiz te Xqc))) (Yla i Eo):=λF0 H0 F H Y δ De En e l w=>by
 obtain⟨A,e⟩:=e
 unfold Yla at w
 split at w
 .rename_i ts hs
  obtain⟨pl,w⟩:=w
  obtain⟨v,hv,a,vs,B,rfl,eA,ha,hB⟩:=e.own i _ hs
  refine⟨_,hv,.inl ⟨rfl,_,SqL.of ha⟩,?_⟩
  refine h F0 H0 F H Y δ _ _ ⟨A,e⟩ w λr u F1 H1 p x1 n=>?_
  obtain⟨C,c1,c2,c3⟩:=n
  have e1:=e.on x1
  have hl:=hB.length
  refine⟨a,vs,u,rfl,rfl,x1.hh _ _ ha,Xwx (by omega),?_⟩
  have hB1:Xa7 K F1 H1 ts vs B:=hB.frame x1.ff λb _ xs z=>x1.hh _ _ z
  have hnd:=e.nod i
  rw[eA]at hnd
  obtain⟨n1,n2⟩:=nodup_cons.mp hnd
  have hCA:∀j b,b∈C->b∉A j:=λj b hb z=>by
   obtain⟨_,_,xs,q,_⟩:=e.new j b z
   rw[(c3 b hb).1]at q;cases q
  have haC:a∉C:=λz=>hCA i a z (by rw[eA];exact mem_cons_self)
  refine l.nx F1 _ Y _ (e1.change i hv (t':=.nl (ts++[r])) (B:=a::(B++C)) ⟨a,vs++[u],B++C,rfl,rfl,Xay,?_⟩ ?_ ?_ ?_ ?_) p
  .exact Xa7.append (hB1.frame (Xbi.refl _) λb hb xs z=>Xav (λq=>n1 (by rw[<- q];exact hb)) z) (Xa7.one (c1.frame (Xbi.refl _) λb hb xs z=>Xav (λq=>haC (by rw[<- q];exact hb)) z))
  .refine nodup_cons.mpr ⟨λz=>?_,nodup_append.mpr ⟨n2,c2,λx hx y hy z=>?_⟩⟩
   .rcases mem_append.mp z with z |z
    .exact n1 z
    .exact haC z
   .subst z
    exact hCA i x hy (by rw[eA];exact mem_cons_of_mem _ hx)
  .intro b hb
   have hb':b∈A i∨b∈C:=by
    rw[eA]
    rcases mem_cons.mp hb with z |z
    .exact .inl (by rw[z];exact mem_cons_self)
    .rcases mem_append.mp z with z |z
     .exact .inl (mem_cons_of_mem _ z)
     .exact .inr z
   rcases hb' with z |z
   .exact ⟨(e1.new i b z).1,(e1.new i b z).2.1⟩
   .exact ⟨(c3 b z).2,e.ext.hh.free (c3 b z).1⟩
  .intro j hj b hb z
   rcases mem_cons.mp hb with q |q
   .subst q;exact e.dis j i b hj z (by rw[eA];exact mem_cons_self)
   .rcases mem_append.mp q with q |q
    .exact e.dis j i b hj z (by rw[eA];exact mem_cons_of_mem _ q)
    .exact hCA j b q z
  .intro b o hb q
   exact Xav (λz=>hb (by rw[eA,z];exact mem_cons_self)) q
 .exact w.elim
def Ymh (i:Nat)(Ei:DE)(E:DO):DS:=λDe δ=>E δ λr=>match δ[i]? with
 |some (some (.own (.nl ts)))=>Ei δ λk=>match k with
  | .int k=>∃j,ixN ts.length k=some j/\De.nx (δ.set i (some (.own (.nl (ts.set j r)))))
  |_=>False
 |_=>False
theorem Ycs {i:Nat}(h:Xjx K te Eo)(hi:Xgi K ti Ei):Xeg K (Yam te (Yky (Xnr i) ti Ya0)) (Ymh i Ei Eo):=λF0 H0 F H Y δ De En e l w=>by
 refine h F0 H0 F H Y δ _ _ e w λr u F1 H1 p x1 n=>?_
 obtain⟨A,e⟩:=e
 split at p
 .rename_i ts hs
  have e1:=e.on x1
  obtain⟨v,hv,a,vs,B,rfl,eA,ha,hB⟩:=e1.own i _ hs
  refine⟨_,hv,?_⟩
  refine hi F0 H0 F1 H1 Y δ _ _ ⟨A,e1⟩ p λk kv F2 H2 p2 x2 r2=>?_
  try dsimp only at p2
  split at p2
  .rename_i k
   obtain⟨j,hj,p2⟩:=p2
   have e2:=e1.on x2
   have ha2:=x2.hh _ _ ha
   have hB2:Xa7 K F2 H2 ts vs B:=hB.frame x2.ff λb _ xs z=>x2.hh _ _ z
   obtain⟨C,c1,c2,c3⟩:=n
   have c1':Xnn K F2 H2 r u C:=c1.frame x2.ff λb _ xs z=>x2.hh _ _ z
   have hl:=hB.length
   refine⟨a,vs,k,j,rfl,r2,ha2,by rw[<- hl];exact hj,?_⟩
   have hjl:j<ts.length:=by
    unfold ixN at hj
    split at hj
    .split at hj
     .cases hj;omega
     .cases hj
    .split at hj
     .cases hj;omega
     .cases hj
   obtain⟨v0,A1,B0,A2,f1,rfl,f3,f4⟩:=hB2.focus (getElem?_eq_getElem hjl)
   have hnd:=e.nod i
   rw[eA]at hnd
   obtain⟨n1,n2⟩:=nodup_cons.mp hnd
   have hCA:∀j b,b∈C->b∉A j:=λj b hb z=>by
    obtain⟨_,_,xs,q,_⟩:=e.new j b z
    rw[(c3 b hb).1]at q;cases q
   have haC:a∉C:=λz=>hCA i a z (by rw[eA];exact mem_cons_self)
   have sub:∀b,b∈A1++A2->b∈A1++(B0++A2):=λb hb=>by
    rcases mem_append.mp hb with z |z<;>simp[z]
   have ina:∀b,b∈a::(A1++(C++A2))->b∈A i∨b∈C:=λb hb=>by
    rw[eA]
    rcases mem_cons.mp hb with z |z
    .exact .inl (by rw[z];exact mem_cons_self)
    .rcases mem_append.mp z with z |z
     .exact .inl (by simp[z])
     .rcases mem_append.mp z with z |z
      .exact .inr z
      .exact .inl (by simp[z])
   refine l.nx F2 _ Y _ (e2.change i hv (t':=.nl (ts.set j r)) (B:=a::(A1++(C++A2))) ⟨a,vs.set j u,_,rfl,rfl,Xay,f4 F2 _ r u C (Xbi.refl _) (λb hb xs z=>?_) (c1'.frame (Xbi.refl _) λb hb xs z=>Xav (λq=>haC (by rw[<- q];exact hb)) z)⟩ ?_ ?_ ?_ ?_) p2
   .exact Xav (λq=>n1 (by rw[<- q];exact sub b hb)) z
   .obtain ⟨m1,m2,m3⟩:=nodup_append.mp n2
    obtain⟨k1,k2,k3⟩:=nodup_append.mp m2
    refine nodup_cons.mpr ⟨λz=>?_,nodup_append.mpr ⟨m1,nodup_append.mpr ⟨c2,k2,λx hx y hy z=>?_⟩,λx hx y hy z=>?_⟩⟩
    .rcases mem_append.mp z with z |z
     .exact n1 (by simp[z])
     .rcases mem_append.mp z with z |z
      .exact haC z
      .exact n1 (by simp[z])
    .subst z
     exact hCA i x hx (by rw[eA];simp[hy])
    .rcases mem_append.mp hy with q |q
     .subst z
      exact hCA i x q (by rw[eA];simp[hx])
     .exact m3 x hx y (by simp[q]) z
   .intro b hb
    rcases ina b hb with z |z
    .exact ⟨(e2.new i b z).1,(e2.new i b z).2.1⟩
    .obtain ⟨xs,q,himm⟩:=c1.isl b z
     exact⟨x2.no b _ (c3 b z).2 q himm,e.ext.hh.free (c3 b z).1⟩
   .intro j' hj' b hb z
    rcases ina b hb with q |q
    .exact e.dis j' i b hj' z q
    .exact hCA j' b q z
   .intro b o hb q
    exact Xav (λz=>hb (by rw[eA,z];exact mem_cons_self)) q
  .exact p2.elim
 .exact p.elim
def Ye6 (i:Nat)(g:Int->Int->Int)(Ei E:DE):DS:=λDe δ=>match δ[i]? with
 |some (some (.own (.nl ts)))=>Ei δ λk=>match k with
  | .int k=>0<=k/\∃x,ts[k.toNat]?=some (.fz (.int x))/\E δ λy=>match y with
   | .int y=>De.nx (δ.set i (some (.own (.nl (ts.set k.toNat (.fz (.int (g x y))))))))
   |_=>False
  |_=>False
 |_=>False
theorem Yeo {i:Nat}{g:Int->Int->Int}(hi:Xgi K ti Ei)(h:Xgi K te E):Xeg K (Yhu (Xnr i) ti te (Yik K) (ipI g) Ya0) (Ye6 i g Ei E):=λF0 H0 F H Y δ De En e l w=>by
 obtain⟨A,e⟩:=e
 unfold Ye6 at w
 split at w
 .rename_i ts hs
  obtain⟨v,hv,a,vs,B,rfl,eA,ha,hB⟩:=e.own i _ hs
  refine⟨_,hv,?_⟩
  refine hi F0 H0 F H Y δ _ _ ⟨A,e⟩ w λk kv F1 H1 p x1 r1=>?_
  split at p
  .rename_i k
   obtain⟨k0,x,hx,p⟩:=p
   have e1:=e.on x1
   have ha1:=x1.hh _ _ ha
   have hB1:Xa7 K F1 H1 ts vs B:=hB.frame x1.ff λb _ xs z=>x1.hh _ _ z
   obtain⟨v0,A1,B0,A2,f1,rfl,f3,f4⟩:=hB1.focus hx
   obtain⟨rfl,f3⟩:=f3
   refine⟨a,vs,k,v0,rfl,r1,SqL.of ha1,k0,f1,?_⟩
   refine h F0 H0 F1 H1 Y δ _ _ ⟨A,e1⟩ p λy yv F2 H2 p2 x2 r2=>?_
   split at p2
   .rename_i y
    have e2:=e1.on x2
    have hl:=hB.length
    have hjl:k.toNat<vs.length:=(List.getElem?_eq_some_iff.mp f1).1
    refine⟨x,y,f3,r2,a,vs,k,k.toNat,rfl,r1,x2.hh _ _ ha1,?_,?_⟩
    .unfold ixN
     rw[if_pos k0,if_pos (by omega)]
    .have hnd:=e.nod i
     rw[eA]at hnd
     obtain⟨n1,n2⟩:=nodup_cons.mp hnd
     refine l.nx F2 _ Y _ (e2.change i hv (t':=.nl (ts.set k.toNat (.fz (.int (g x y))))) (B:=a::(A1++([]++A2))) ⟨a,_,_,rfl,rfl,Xay,f4 F2 _ (.fz (.int (g x y))) _ [] x2.ff (λb hb xs z=>Xav (λq=>n1 (by rw[<- q];exact hb)) (x2.hh _ _ z)) ⟨rfl,rfl⟩⟩ ?_ ?_ ?_ ?_) p2
     .exact hnd
     .intro b hb
      exact⟨(e2.new i b (by rw[eA];exact hb)).1,(e2.new i b (by rw[eA];exact hb)).2.1⟩
     .intro j hj b hb z
      exact e.dis j i b hj z (by rw[eA];exact hb)
     .intro b o hb q
      exact Xav (λz=>hb (by rw[eA,z];exact mem_cons_self)) q
   .exact p2.elim
  .exact p.elim
 .exact w.elim
end
section
variable {K:Frag}{te ti ta tl:TE}{E Ea Ei El:DE}{Eo:DO}{t u:TS}{T U:DS}{a:TA}{As:DA}
theorem ER.rebase {F0 H0 F H:Hp}{Y:St}{δ:Dst}{A:Nat->List Addr}(e:ER K F0 H0 F H Y δ A):ER K F H0 F H Y δ A:=⟨e.len,⟨Xbi.refl _,e.ext.hh,e.ext.fh,λ_ _ z _ _=>z⟩,e.own,e.bw,e.nod,e.dis,e.new⟩
theorem Xf1.rebase {F0 H0 F H:Hp}{Y:St}{δ:Dst}(e:Xf1 K F0 H0 F H Y δ):Xf1 K F H0 F H Y δ:=let⟨A,e⟩:=e;⟨A,e.rebase⟩
theorem Ext.unbase {F0 H0 F1 H1 F H:Hp}(x:Ext F0 H0 F1 H1)(y:Ext F1 H0 F H):Ext F0 H0 F H:=⟨x.ff.trans y.ff,y.hh,y.fh,λa o z1 z2 z3=>y.no a o (x.no a o z1 z2 z3) z2 z3⟩
theorem Xf1.unbase {F0 H0 F1 H1 F H:Hp}{Y:St}{δ:Dst}(x:Ext F0 H0 F1 H1)(e:Xf1 K F1 H0 F H Y δ):Xf1 K F0 H0 F H Y δ:=let⟨A,e⟩:=e;⟨A,e.len,x.unbase e.ext,e.own,e.bw,e.nod,e.dis,e.new⟩
def Yhz (C:DT)(T:DS):DS:=λDe δ=>∃W:Nat->Dst->Prop,(∃m,W m δ)/\∀m δ,W m δ->C δ λb=>if b=true then T {nx:=λδ'=>∃m',m'<m/\W m' δ',ct:=λδ'=>∃m',m'<m/\W m' δ',bk:=De.nx,rt:=De.rt} δ else De.nx δ
theorem Xt4 {c:TT}{C:DT}(h:Xtp K c C)(ht:Xeg K t T):Xeg K (Yci c t) (Yhz C T):=λF0 H0 F H Y δ De En e l w=>by
 obtain⟨W,⟨m0,w0⟩,hW⟩:=w
 refine⟨λm Y H=>∃F δ,Xf1 K F0 H0 F H Y δ/\W m δ,⟨m0,F,δ,e,w0⟩,?_⟩
 rintro m Y1 H1 ⟨F1,δ1,e1,w1⟩
 refine h F0 H0 F1 H1 Y1 δ1 _ _ e1 (hW m δ1 w1) λb F2 H2 p x=>?_
 cases b with
 |true=>
  refine Ydj ⟨λY' H'=>∃m',m'<m/\∃F δ,Xf1 K F0 H0 F H' Y' δ/\W m' δ,λY' H' z=>z,?_⟩
  refine ht F0 H0 F2 H2 Y1 δ1 {nx:=λδ'=>∃m',m'<m/\W m' δ',ct:=λδ'=>∃m',m'<m/\W m' δ',bk:=De.nx,rt:=De.rt} _ (e1.on x) ⟨λF3 H3 Y3 δ3 e3 ⟨m',hm,w3⟩=>⟨m',hm,F3,δ3,e3,w3⟩,l.nx,λF3 H3 Y3 δ3 e3 ⟨m',hm,w3⟩=>⟨m',hm,F3,δ3,e3,w3⟩,l.rt⟩ p
 |false=>exact Ydk rfl (l.nx F2 H2 Y1 δ1 (e1.on x) p)
def ItR (K:Frag)(F:Hp)(J:It)(ds:List D):Prop:=∀F1 H1,Xbi F F1->Xbi F1 H1->(∀i,i<ds.length->J.go i H1)/\J.stop ds.length H1/\∀i x H2,i<ds.length->J.yld i H1 x H2->∃d F2,ds[i]?=some d/\Ext F1 H1 F2 H2/\Rep K F2 d x
def Yb9 (K:Frag)(wi:TI)(I:DA):Prop:=∀F0 H0 F H Y δ P R,Xf1 K F0 H0 F H Y δ->I δ P->(∀ds J F' H',P ds->Ext F H F' H'->ItR K F' J ds->R J H')->wi Y H R
def Yns (G:D->Dst->(Dst->Prop)->Prop)(T:DS)(De:DEnds)(ds:List D)(δ:Dst):Prop:=∃W:Nat->Dst->Prop,W 0 δ/\
 (∀i d δ,ds[i]?=some d->W i δ->G d δ λδ'=>T {nx:=W (i+1),ct:=W (i+1),bk:=De.nx,rt:=De.rt} δ')/\∀δ,W ds.length δ->De.nx δ
def Ymi (I:DA)(G:D->Dst->(Dst->Prop)->Prop)(T:DS):DS:=λDe δ=>I δ λds=>Yns G T De ds δ
theorem Xgp {wi:TI}{I:DA}{g:TG}{G:D->Dst->(Dst->Prop)->Prop}(hi:Yb9 K wi I)(hg:Yhf K g G)(ht:Xeg K t T):Xeg K (Ymb wi g t) (Ymi I G T):=λF0 H0 F H Y δ De En e l w=>
 hi F0 H0 F H Y δ _ _ e w λds J F1 H1 p x1 hJ=>by
  have b1:=(e.on x1).ext
  obtain⟨W,w0,ws,wd⟩:=p
  refine⟨λi m Y H=>m=ds.length-i/\i<=ds.length/\∃F δ,Xf1 K F1 H0 F H Y δ/\W i δ,⟨ds.length,by simp,zero_le _,F1,δ,(e.on x1).rebase,w0⟩,?_⟩
  rintro i m Y2 H2 ⟨rfl,hil,F2,δ2,⟨A2,e2⟩,w2⟩
  obtain⟨j1,j2,j3⟩:=hJ F2 H2 e2.ext.ff e2.ext.fh
  by_cases hlt:i<ds.length
  .refine .inr ⟨j1 i hlt,λY' H'=>∃F δ,Xf1 K F1 H0 F H' Y' δ/\W (i+1) δ,λY' H' ⟨F3,δ3,e3,w3⟩=>⟨ds.length-(i+1),by omega,rfl,hlt,F3,δ3,e3,w3⟩,λx H3 y=>?_⟩
   obtain⟨d,F3,hd,x3,r3⟩:=j3 i x H3 hlt y
   refine hg F1 H0 F3 H3 Y2 δ2 A2 d x _ _ (e2.on x3) r3 (ws i d δ2 hd w2) λY4 δ4 A4 w4 e4 _=>?_
   exact ht F1 H0 F3 H3 Y4 δ4 {nx:=W (i+1),ct:=W (i+1),bk:=De.nx,rt:=De.rt} _ ⟨A4,e4⟩ ⟨λF5 H5 Y5 δ5 e5 w5=>⟨F5,δ5,e5,w5⟩,λF5 H5 Y5 δ5 e5 w5=>l.nx F5 H5 Y5 δ5 (e5.unbase b1) w5,λF5 H5 Y5 δ5 e5 w5=>⟨F5,δ5,e5,w5⟩,λF5 H5 r v x5 n5 w5=>l.rt F5 H5 r v (b1.unbase x5) n5 w5⟩ w4
  .have hi':i=ds.length:=by omega
   subst hi'
   exact .inl ⟨j2,l.nx F2 H2 Y2 δ2 (Xf1.unbase b1 ⟨A2,e2⟩) (wd _ w2)⟩
def Ym7 (El:DE):DA:=λδ P=>El δ λd=>match d with
 | .lst ds=>P ds
 |_=>False
def Ym5 (El:DE):DA:=λδ P=>El δ λd=>match d with
 | .tup ds=>P ds
 |_=>False
theorem Xg5 (h:Xeh K tl El):Yb9 K (Ygk K tl) (Ym7 El):=λF0 H0 F H Y δ P R e w q=>h F0 H0 F H Y δ _ _ e w λd v F' H' p x r=>by
 try dsimp only at p
 split at p
 .obtain ⟨a,vs,rfl,h1,h2⟩:=r
  refine⟨a,rfl,⟨vs,x.fh.seq h1⟩,q _ _ F' H' p x λF1 H1 s1 s2=>?_⟩
  have hl:=h2.length
  have hq:=(s1.trans s2).seq h1
  refine⟨λi hi=>⟨vs,vs[i],hq,getElem?_eq_getElem (by omega)⟩,⟨vs,hq,by omega⟩,λi x H2 hi y=>?_⟩
  obtain⟨rfl,y⟩:=y
  obtain⟨d,hd,rd⟩:=h2.get' (y vs hq)
  exact⟨d,F1,hd,Ext.refl s2,rd.mono s1⟩
 .exact p.elim
theorem Xlg (h:Xeh K tl El):Yb9 K (Yms K tl) (Ym5 El):=λF0 H0 F H Y δ P R e w q=>h F0 H0 F H Y δ _ _ e w λd v F' H' p x r=>by
 try dsimp only at p
 split at p
 .obtain ⟨a,vs,rfl,h1,h2⟩:=r
  refine⟨a,rfl,⟨vs,x.fh.seqT h1⟩,q _ _ F' H' p x λF1 H1 s1 s2=>?_⟩
  have hl:=h2.length
  have hq:=(s1.trans s2).seqT h1
  refine⟨λi hi=>⟨vs,vs[i],hq,getElem?_eq_getElem (by omega)⟩,⟨vs,hq,by omega⟩,λi x H2 hi y=>?_⟩
  obtain⟨rfl,y⟩:=y
  obtain⟨d,hd,rd⟩:=h2.get' (y vs hq)
  exact⟨d,F1,hd,Ext.refl s2,rd.mono s1⟩
 .exact p.elim
def rng (lo c:Int)(n:Nat):List D:=(List.range n).map λ(i:Nat)=>D.int (lo+i*c)
theorem Xfu {lo c:Int}{n:Nat}:(rng lo c n).length=n:=by simp[rng]
theorem Xsw {lo c:Int}{n i:Nat}(h:i<n):(rng lo c n)[i]?=some (.int (lo+i*c)):=by simp[rng,h]
theorem Xg8 {lo c:Int}{n i:Nat}{d:D}(h:(rng lo c n)[i]?=some d):i<n/\d = .int (lo+i*c):=by
 have hi:i<n:=by
  have:=(List.getElem?_eq_some_iff.mp h).1
  rwa[Xfu]at this
 rw[Xsw hi]at h
 exact⟨hi,(Option.some.inj h).symm⟩
theorem Ygf {F:Hp}{lo:Int}{n:Nat}:ItR K F (Itr lo n) (rng lo 1 n):=λF1 H1 s1 s2=>by
 rw[Xfu]
 refine⟨λi hi=>hi,Nat.le_refl _,λi x H2 hi y=>?_⟩
 obtain⟨rfl,rfl⟩:=y
 exact⟨_,F1,Xsw hi,Ext.refl s2,by rw[mul_one];rfl⟩
theorem Ybv {F:Hp}{lo c:Int}{n:Nat}:ItR K F (Yl6 lo c n) (rng lo c n):=λF1 H1 s1 s2=>by
 rw[Xfu]
 refine⟨λi hi=>hi,Nat.le_refl _,λi x H2 hi y=>?_⟩
 obtain⟨rfl,rfl⟩:=y
 exact⟨_,F1,Xsw hi,Ext.refl s2,rfl⟩
def Yj4 (As:DA):DA:=λδ P=>As δ λds=>match ds with
 | [.int j]=>(-(2^62)<=j/\j<2^62)/\P (rng 0 1 j.toNat)
 |_=>False
def Yj3 (As:DA):DA:=λδ P=>As δ λds=>match ds with
 | [.int i,.int j,.int c]=>(-(2^61)<=i/\i<2^61/\-(2^61)<=j/\j<2^61/\0<c/\c<2^29)/\P (rng i c (Xht i j c))
 |_=>False
theorem Ylb {F:Hp}{d d' d'':D}{vs:List V}(h:Xb4 K F [d,d',d''] vs):∃v u w,vs=[v,u,w]/\Rep K F d v/\Rep K F d' u/\Rep K F d'' w:=by
 obtain⟨v,r,rfl,h1,h2⟩:=h
 obtain⟨u,w,rfl,h3,h4⟩:=Xxs h2
 exact⟨v,u,w,rfl,h1,h3,h4⟩
theorem Xg4 (h:Xn8 K a As):Yb9 K (Yjs a) (Yj4 As):=λF0 H0 F H Y δ P R e w q=>h F0 H0 F H Y δ _ _ e w λds vs F' H' p x r=>by
 try dsimp only at p
 split at p
 .obtain ⟨v,rfl,r1⟩:=Xjm r
  exact⟨_,by rw[show v=_ from r1],p.1.1,p.1.2,q _ _ F' H' p.2 x Ygf⟩
 .exact p.elim
theorem Xms (h:Xn8 K a As):Yb9 K (Yjr a) (Yj3 As):=λF0 H0 F H Y δ P R e w q=>h F0 H0 F H Y δ _ _ e w λds vs F' H' p x r=>by
 try dsimp only at p
 split at p
 .obtain ⟨v,u,z,rfl,r1,r2,r3⟩:=Ylb r
  exact⟨_,_,_,by rw[show v=_ from r1,show u=_ from r2,show z=_ from r3],p.1,q _ _ F' H' p.2 x Ybv⟩
 .exact p.elim
def Ygz (ix:List (Option Nat))(δ:Dst):Dst:=ix.map λo=>match o with
 |none=>none
 |some i=>match δ[i]? with
  |some (some (.own (.fz d)))=>some (.own (.fz d))
  |some (some (.own (.fx _ d)))=>some (.own (.fz d))
  |some (some (.own t))=>some (.bw t.val)
  |some (some (.bw d))=>some (.bw d)
  |_=>none
def Xix (G:D->Dst->(Dst->Prop)->Prop)(Eo:DO)(ds:List D)(δ:Dst)(P:OV->Prop):Prop:=∃W:Nat->Dst->List OV->Prop,W 0 δ []/\
 (∀i d δ ts,ds[i]?=some d->W i δ ts->ts.length<1000000/\G d δ λδ'=>Eo δ' λr=>W (i+1) δ' (ts++[r]))/\∀δ ts,W ds.length δ ts->P (.nl ts)
def Yke (I:DA)(ix:List (Option Nat))(G:D->Dst->(Dst->Prop)->Prop)(Eo:DO):DO:=λδ P=>I δ λds=>Xix G Eo ds (Ygz ix δ) P
theorem ER.blk {F0 H0 F H H':Hp}{Y:St}{δ:Dst}{A:Nat->List Addr}(e:ER K F0 H0 F H Y δ A)(ix:List (Option Nat))(s:Xbi H H'):ER K F H F H' (Xlv ix Y) (Ygz ix δ) (λ_=>[]):=by
 have get:∀(j:Nat) (s:Sl),(Ygz ix δ)[j]?=some (some s)->∃(i:Nat) (v:V),(Xlv ix Y)[j]?=some (some v)/\Y[i]?=some (some v)/\((∃d,s = .own (.fz d)/\Rep K F d v)∨∃d,s = .bw d/\Rep K H d v):=by
  intro j s hj
  unfold Ygz at hj
  rw[getElem?_map]at hj
  cases q:ix[j]? with
  |none=>rw[q]at hj;cases hj
  |some o=>
   rw[q]at hj
   cases o with
   |none=>cases hj
   |some i=>
    have fin:∀v,Y[i]?=some (some v)->(Xlv ix Y)[j]?=some (some v):=λv hv=>by
     unfold Xlv
     rw[getElem?_map,q]
     simp[hv]
    have hj':=Option.some.inj hj
    dsimp only at hj'
    split at hj'
    .rename_i d hd
     cases hj'
     obtain⟨v,h1,h2⟩:=e.own i _ hd
     exact⟨i,v,fin v h1,h1,.inl ⟨d,rfl,h2.2⟩⟩
    .rename_i u d hd
     cases hj'
     obtain⟨v,h1,h2⟩:=e.own i _ hd
     exact⟨i,v,fin v h1,h1,.inl ⟨d,rfl,h2.2.2⟩⟩
    .rename_i t _ _ hd
     cases hj'
     obtain⟨v,h1,h2⟩:=e.own i _ hd
     exact⟨i,v,fin v h1,h1,.inr ⟨_,rfl,h2.rep e.ext.fh λa _ xs z=>z⟩⟩
    .rename_i d hd
     cases hj'
     obtain⟨v,h1,h2⟩:=e.bw i _ hd
     exact⟨i,v,fin v h1,h1,.inr ⟨_,rfl,h2.mono e.ext.hh⟩⟩
    .cases hj'
 refine⟨by simp[Xlv,Ygz],Ext.grow e.ext.fh s,λj t hj=>?_,λj d hj=>?_,λ_=>nodup_nil,(λ_ _ _ _ h=>by cases h),(λ_ _ h=>by cases h)⟩
 .obtain ⟨i,v,h1,h2,h3⟩:=get j _ hj
  rcases h3 with⟨d,h3,h4⟩ | ⟨d,h3,_⟩
  .cases h3;exact⟨v,h1,rfl,h4⟩
  .cases h3
 .obtain ⟨i,v,h1,h2,h3⟩:=get j _ hj
  rcases h3 with⟨d',h3,h4⟩ | ⟨d',h3,h4⟩
  .cases h3
  .cases h3;exact⟨v,h1,h4⟩
theorem Xb3 {wi:TI}{I:DA}{g:TG}{G:D->Dst->(Dst->Prop)->Prop}{ix:List (Option Nat)}(hi:Yb9 K wi I)(hg:Yhf K g G)(he:Xjx K te Eo):Xjx K (Xqe wi ix g te) (Yke I ix G Eo):=λF0 H0 F H Y δ P Q e w q=>
 hi F0 H0 F H Y δ _ _ e w λds J F1 H1 p x1 hJ=>by
  intro L hL
  obtain⟨A,e⟩:=e.on x1
  obtain⟨W,w0,ws,wd⟩:=p
  have f1:Xbi F1 H1:=x1.fh
  refine⟨λi m Y ys H=>m=ds.length-i/\i<=ds.length/\∃F δ ts B,ER K F1 H1 F H Y δ (λ_=>[])/\W i δ ts/\F L=none/\H L=some (.lst ys)/\Xa7 K F H ts ys B/\(L::B).Nodup/\∀b∈B,H1 b=none/\F b=none,
   ⟨ds.length,by simp,zero_le _,F1,_,[],[],e.blk ix (Xbi.new hL),w0,f1.free hL,Xay,⟨rfl,rfl⟩,by simp,λ_ h=>by cases h⟩,?_⟩
  rintro i m Y2 ys H2 ⟨rfl,hil,F2,δ2,ts,B,e2,w2,l1,l2,hr,nd,nw⟩
  obtain⟨j1,j2,j3⟩:=hJ F2 H2 e2.ext.ff e2.ext.fh
  by_cases hlt:i<ds.length
  .obtain ⟨d0,hd0⟩:∃d,ds[i]?=some d:=⟨_,getElem?_eq_getElem hlt⟩
   have hl:=hr.length
   refine .inr ⟨Xwx (by have:=(ws i d0 δ2 ts hd0 w2).1;omega),j1 i hlt,λx H3 y=>?_⟩
   obtain⟨d,F3,hd,x3,r3⟩:=j3 i x H3 hlt y
   refine hg F1 H1 F3 H3 Y2 δ2 (λ_=>[]) d x _ _ (e2.on x3) r3 (ws i d δ2 ts hd w2).2 λY4 δ4 A4 w4 e4 sub=>?_
   have e4':ER K F1 H1 F3 H3 Y4 δ4 (λ_=>[]):=by
    have:A4=λ_=>[]:=funext λk=>List.eq_nil_iff_forall_not_mem.mpr λb hb=>by cases sub k b hb
    rw[this]at e4;exact e4
   refine he F1 H1 F3 H3 Y4 δ4 _ _ ⟨_,e4'⟩ w4 λr v F5 H5 p5 x5 n5=>?_
   have x25:=x3.trans x5
   have l5:=x25.hh _ _ l2
   have l5f:=x25.no L _ l1 l2 rfl
   refine⟨l5,ds.length-(i+1),by omega,rfl,hlt,F5,δ4,ts++[r],?_⟩
   obtain⟨C,c1,c2,c3⟩:=n5
   obtain⟨n1,n2⟩:=nodup_cons.mp nd
   have hLC:L∉C:=λz=>by
    have q:=(c3 L z).1
    rw[x3.hh _ _ l2]at q;cases q
   have hBC:∀b,b∈B->b∉C:=λb hb z=>by
    obtain⟨xs,q,himm⟩:=hr.isl b hb
    have:=(c3 b z).1
    rw[x3.hh _ _ q]at this;cases this
   have e5:=e4'.on x5
   refine⟨B++C,⟨e5.len,⟨e5.ext.ff,λb o h=>?_,λb o h=>?_,e5.ext.no⟩,λj t hj=>?_,e5.bw,e5.nod,e5.dis,λ_ _ h=>by cases h⟩,p5,l5f,Xay,?_,?_,λb hb=>?_⟩
   .exact Xav (λz=>by rw[z,hL]at h;cases h) (e5.ext.hh _ _ h)
   .exact Xav (λz=>by rw[z,l5f]at h;cases h) (e5.ext.fh _ _ h)
   .obtain ⟨u,h1,h2⟩:=e5.own j t hj
    exact⟨u,h1,h2.frame (Xbi.refl _) λ_ z=>by cases z⟩
   .exact Xa7.append (hr.frame x25.ff λb hb xs z=>Xav (λq=>n1 (by rw[<- q];exact hb)) (x25.hh _ _ z)) (Xa7.one (c1.frame (Xbi.refl _) λb hb xs z=>Xav (λq=>hLC (by rw[<- q];exact hb)) z))
   .refine nodup_cons.mpr ⟨λz=>?_,nodup_append.mpr ⟨n2,c2,λx hx y hy z=>by subst z;exact hBC x hx hy⟩⟩
    rcases mem_append.mp z with z |z
    .exact n1 z
    .exact hLC z
   .rcases mem_append.mp hb with z |z
    .obtain ⟨xs,qq,himm⟩:=hr.isl b z
     exact⟨(nw b z).1,x25.no b _ (nw b z).2 qq himm⟩
    .exact ⟨(e2.ext.hh.trans x3.hh).free (c3 b z).1,(c3 b z).2⟩
  .have hi':i=ds.length:=by omega
   subst hi'
   refine .inl ⟨j2,q _ _ F2 H2 (wd _ _ w2) (x1.trans e2.ext) ⟨L::B,⟨L,ys,B,rfl,rfl,l2,hr⟩,nd,λb hb=>?_⟩⟩
   rcases mem_cons.mp hb with rfl |z
   .exact ⟨x1.hh.free hL,l1⟩
   .exact ⟨x1.hh.free (nw b z).1,(nw b z).2⟩
def Xfn (N:List Str)(ds:List D):Dst:=ds.map (λd=>some (.own (.fz d)))++List.replicate (N.length-ds.length) none
theorem Xhy {H F:Hp}{N:List Str}{ds:List D}{vs:List V}(s:Xbi F H)(h:Xb4 K F ds vs):ER K F H F H (Xe4 N vs) (Xfn N ds) (λ_=>[]):=by
 have hl:=h.length
 refine⟨by simp[Xe4,Xfn,hl],Ext.refl s,λi t hi=>?_,λi d hi=>?_,λ_=>nodup_nil,(λ_ _ _ _ h=>by cases h),(λ_ _ h=>by cases h)⟩
 .unfold Xfn at hi
  by_cases z:i<ds.length
  .rw [getElem?_append_left (by simpa using z),getElem?_map,getElem?_eq_getElem z]at hi
   simp at hi
   subst hi
   obtain⟨v,h1,h2⟩:=h.get (getElem?_eq_getElem z)
   refine⟨v,?_,rfl,h2⟩
   unfold Xe4
   rw[getElem?_append_left (by simp;omega),getElem?_map,h1]
   rfl
  .rw [getElem?_append_right (by simpa using z)]at hi
   have:=mem_of_getElem? hi
   rw[mem_replicate]at this
   cases this.2
 .unfold Xfn at hi
  by_cases z:i<ds.length
  .rw [getElem?_append_left (by simpa using z),getElem?_map,getElem?_eq_getElem z]at hi
   simp at hi
  .rw [getElem?_append_right (by simpa using z)]at hi
   have:=mem_of_getElem? hi
   rw[mem_replicate]at this
   cases this.2
end
theorem CalV.of {P:Program}{w:World}{K:Frag}{mg:Str->Option Value}{base:Heap}{x:Str}{st:Stmt}{f:Addr}{fd:FuncData}{N ps:List Str}{k n:Nat}{sp:DSp}(Df:DefAt K mg x st f fd)(S:FnScope N ps (Xac st))
  (hb:∀(kV doc pm:Value) (an:Option Addr) (cdv ct:Value) (us:List Value),us.length=ps.length->bindArgs (fnOf x x (Xar st) (Xan st) (Xac st) .none kV doc pm an cdv ct) ⟨us,[]⟩=pure (ps.zip us)) (hn:n=ps.length)
  (hbody:∀(cdv:Value) (A:Around) (outer:List Env) (s:Shared) (H:Hp) (E:XK),Room k (A.deeper (envOfC x (Xac st) s.heap.objs.size f cdv))->
   ∃t T,PSs (Xn6 CX0 P w K mg base N x (Xac st) f cdv A outer s H E).nox (Xan st) t/\Xeg K t T/\∀ds Pr,sp ds Pr->T {nx:=λ_=>Pr (.fz .non),rt:=Pr} (Xfn N ds)):Cal P w K mg base x (k+1) ps (spV K n sp):=
 Cal.of Df S hb (λvs H Q E h=>by rw[<- hn];exact h.1) λcdv A outer s H vs Q E hr h=>by
  obtain⟨_,F,ds,Pr,hs,hr',hsp,hq⟩:=h
  obtain⟨t,T,h1,h2,h3⟩:=hbody cdv A outer s H E hr
  refine⟨t,h1,h2 F H F H (Xe4 N vs) (Xfn N ds) {nx:=λ_=>Pr (.fz .non),rt:=Pr} _ ⟨_,Xhy hs hr'⟩ ⟨λF' H' Y δ e p=>?_,λ_ _ _ _ _ z=>z.elim,λ_ _ _ _ _ z=>z.elim,λF' H' r v x n p=>hq r v F' H' p x n⟩ (h3 ds Pr hsp)⟩
  exact hq _ _ F' H' p e.ext (.fz rfl)
section
variable {X:Cx}{K:Frag}
def D.tyN:D->String
 | .int _ => "int"
 | .bl _ => "bool"
 | .non => "NoneType"
 | .str _ => "str"
 | .ty _ => "type"
 | .fn _ => "function"
 | .tup _ => "tuple"
 | .lst _ => "list"
 | .dic => "dict"
 | .exc _ => "exception"
 | .obj _ _ _ => "object"
def Yih (K:Frag):List V->Hp->VK->Prop:=λxs H Q=>∃d v n b,xs=[v,.ty n]/\Rep K H d v/\((∀m,d≠.ty m)/\(∀x,d≠.fn x)/\(∀x,d≠.exc x)/\∀c ns ds,d≠.obj c ns ds)/\kitOne K (.type d.tyN) (.type n)=some b/\Q (.bl b) H
theorem Xcx:Xhv X (.builtin "isinstance") (Yih X.K):=by
 intro pins s Y H xs us Q I r h
 obtain⟨d,x,n,b,rfl,rp,⟨hty,hfn,hex,hany⟩,e,q⟩:=h
 obtain⟨u,w',rfl,r1,r2⟩:=Yd4 r
 cases r2
 have fin:∀tk,EP X pins Y Q (.bool b) {s with toks:=tk}:=λtk=>⟨.bl b,H,I.tok tk,rfl,q⟩
 cases d with
 |int i=>cases rp;exact Xkg I r1 (TyOf.int i) e fin
 |bl i=>cases rp;exact Xkg I r1 (TyOf.bl i) e fin
 |non=>cases rp;exact Xkg I r1 TyOf.non e fin
 |str i=>cases rp;exact Xkg I r1 (TyOf.str i) e fin
 |ty i=>exact absurd rfl (hty i)
 |fn i=>exact absurd rfl (hfn i)
 |tup ds=>
  obtain⟨a,vs,rfl,h1,h2⟩:=rp
  cases (show u=Value.ref a from r1)
  obtain⟨its,rv,p,hz⟩:=I.tuple h1
  obtain⟨o,q1,q2,_⟩:=p
  exact kia_one kitx_tuple I.kIn ⟨o,q1,q2⟩ e (λz=>nomatch z) fin
 |lst ds=>
  obtain⟨a,vs,rfl,h1,h2⟩:=rp
  cases (show u=Value.ref a from r1)
  obtain⟨its,rv,p,hz⟩:=I.list h1
  obtain⟨o,q1,q2,_⟩:=p.isList
  exact kia_one kitx_list I.kIn ⟨o,q1,q2⟩ e (λz=>nomatch z) fin
 |dic=>
  obtain⟨a,rfl,h1⟩:=rp
  cases (show u=Value.ref a from r1)
  obtain⟨⟨o,q1,q2⟩,_,_⟩:=I.hok a _ h1
  exact kia_one kitx_dict I.kIn ⟨o,q1,q2⟩ e (λz=>nomatch z) fin
 |exc c=>exact absurd rfl (hex c)
 |obj c ns ds=>exact absurd rfl (hany c ns ds)
def Ylp (d:D)(n:String):Bool:=match d with
 | .int _=>n == "int"
 | .bl _=>n == "bool" ||n == "int"
 | .str _=>n == "str"
 | .tup _=>n == "tuple"
 | .lst _=>n == "list"
 |_=>false
def Xr2:List String:=["int","bool","str","tuple","list"]
structure KitV (K:Frag):Prop where
 all:∀d:D,((∀m,d≠.ty m)/\(∀x,d≠.fn x)/\(∀x,d≠.exc x)/\∀c ns ds,d≠.obj c ns ds)->∀n∈Xr2,kitOne K (.type d.tyN) (.type n)=some (Ylp d n)
def Ylr:List D->(D->Prop)->Prop:=λds P=>match ds with
 | [.ty _,.ty _]=>False
 | [.fn _,.ty _]=>False
 | [.exc _,.ty _]=>False
 | [.obj _ _ _,.ty _]=>False
 | [d,.ty n]=>n∈Xr2/\P (.bl (Ylp d n))
 |_=>False
theorem Xhs (KT:KitV K):CbS K (Yih K) Ylr:=λF H ds vs P Q s rs w q=>by
 unfold Ylr at w
 split at w
 .exact w.elim
 .exact w.elim
 .exact w.elim
 .exact w.elim
 .rename_i d n h1 h0 h2 h3
  obtain⟨v,u,rfl,r1,r2⟩:=Xxs rs
  have ht:∀m,d≠.ty m:=λm z=>h1 m z
  have hf:∀m,d≠.fn m:=λm z=>h0 m z
  have hx:∀m,d≠.exc m:=λm z=>h2 m z
  have hy:∀c ns ds,d≠.obj c ns ds:=λc ns ds z=>h3 c ns ds z
  exact⟨d,v,n,_,by rw[show u=_ from r2],r1,⟨ht,hf,hx,hy⟩,KT.all d ⟨ht,hf,hx,hy⟩ n w.1,q _ _ F H w.2 (Ext.refl s) rfl⟩
 .exact w.elim
theorem Ylj {g:Int->Int->Int}:OpS K (ipI g) (rI2 λi j=>.int (g i j)):=λF H x y v u P Q s rx ry w q=>by
 obtain⟨i,j,rfl,rfl,p⟩:=Xxw w
 exact⟨i,j,rx,ry,q _ _ F H p (Ext.refl s) rfl⟩
theorem Yab {α:Type}{a:α}{xs:List α}:atI (a::xs) 0=some a:=Xfa (j:=0) rfl
theorem Ykp {α:Type}{a b:α}{xs:List α}:atI (a::b::xs) 1=some b:=Xfa (j:=1) rfl
theorem Yko {α:Type}{a b c:α}{xs:List α}:atI (a::b::c::xs) 2=some c:=Xfa (j:=2) rfl
theorem Ykn {α:Type}{a b c d:α}{xs:List α}:atI (a::b::c::d::xs) 3=some d:=Xfa (j:=3) rfl
theorem Ykm {α:Type}{a b c d e:α}{xs:List α}:atI (a::b::c::d::e::xs) 4=some e:=Xfa (j:=4) rfl
theorem Xho {xs:List Int}{i:Int}(h0:0<=i)(h:i<xs.length):atI (xs.map D.int) i=some (.int (xs.getD i.toNat 0)):=by
 have hi:i.toNat<xs.length:=by omega
 have e:=Xfa (xs:=xs.map D.int) (j:=i.toNat) (v:=.int (xs.getD i.toNat 0)) (by simp[hi])
 rwa[show ((i.toNat:Nat):Int)=i by omega]at e
theorem Ymr {i j:Int}(h1 : -1000000<=i)(h2:i<=1000000):Yks i j:=.inl ⟨by omega,by omega⟩
theorem Ydd {α β:Type}{xs:List α}{f:α->β}{i:Nat}{d:β}(h:(xs.map f)[i]?=some d):∃x,xs[i]?=some x/\d=f x:=by
 rw[getElem?_map]at h
 cases q:xs[i]? with
 |none=>rw[q]at h;cases h
 |some x=>rw[q]at h;exact⟨x,rfl,(Option.some.inj h).symm⟩
theorem Yd5 {xs:List Int}:List.map OV.val (xs.map λx=>OV.fz (D.int x))=xs.map D.int:=by
 rw[map_map];rfl
theorem Ygm {xs:List Int}{i:Int}(h0:0<=i)(h:i<xs.length):(xs.map λx=>OV.fz (D.int x))[i.toNat]?=some (.fz (.int (xs.getD i.toNat 0))):=by
 have hi:i.toNat<xs.length:=by omega
 simp[hi]
theorem Yej {xs:List Int}{i:Nat}{v:Int}:(xs.map λx=>OV.fz (D.int x)).set i (.fz (.int v))=(xs.set i v).map λx=>OV.fz (D.int x):=by
 rw[List.map_set]
theorem Yg3 {xs:List Int}{v:Int}:(xs.map λx=>OV.fz (D.int x))++[.fz (.int v)]=(xs++[v]).map λx=>OV.fz (D.int x):=by
 rw[map_append];rfl
theorem Yjv {xs:List Int}:(xs.map D.int).map OV.fz=xs.map λx=>OV.fz (D.int x):=by
 rw[map_map];rfl
theorem Yjc:("int"∈Xr2)=True:=eq_true (by decide)
theorem Ygd:("bool"∈Xr2)=True:=eq_true (by decide)
theorem Yjb:("str"∈Xr2)=True:=eq_true (by decide)
theorem Ybt:("tuple"∈Xr2)=True:=eq_true (by decide)
theorem Ygc:("list"∈Xr2)=True:=eq_true (by decide)
theorem Ylk:(Int.natAbs 10<2^64)=True:=eq_true (by decide)
theorem Xix.map {α:Type}{Eo:DO}{o:Option Sl}{Xi0:Dst}{P:OV->Prop}(xs:List α)(g:α->D)(f:α->OV)(hn:xs.length<=1000000)
  (h:∀x∈xs,∀Q:OV->Prop,Q (f x)->Eo (some (.own (.fz (g x)))::Xi0) Q) (k:P (.nl (xs.map f))):Xix (gN 0) Eo (xs.map g) (o::Xi0) P:=by
 refine⟨λi δ ts=>∃o,δ=o::Xi0/\ts=(xs.take i).map f,⟨o,rfl,by simp⟩,?_,?_⟩
 .rintro i d δ ts hd ⟨o,rfl,rfl⟩
  obtain⟨x,hx,rfl⟩:=Ydd hd
  obtain⟨hi,e⟩:=List.getElem?_eq_some_iff.mp hx
  refine⟨by rw[length_map,length_take];omega,h x (mem_of_getElem? hx) _ ⟨_,rfl,?_⟩⟩
  rw[List.take_succ_eq_append_getElem hi,e,map_append]
  rfl
 .rintro δ ts ⟨o,rfl,rfl⟩
  rw[length_map,take_length]
  exact k
theorem Xix.rng {Eo:DO}{o:Option Sl}{Xi0:Dst}{P:OV->Prop}{lo c:Int}{n:Nat}(f:Nat->OV)(hn:n<=1000000)
  (h:∀i,i<n->∀Q:OV->Prop,Q (f i)->Eo (some (.own (.fz (.int (lo+i*c))))::Xi0) Q) (k:P (.nl ((List.range n).map f))):Xix (gN 0) Eo (rng lo c n) (o::Xi0) P:=
 Xix.map (List.range n) _ f (by simpa using hn) (λi hi Q q=>h i (mem_range.mp hi) Q q) k
theorem Xt3 {T U:DS}{De:DEnds}{δ:Dst}(h:∀N:Dst->Prop,(∀δ',U De δ'->N δ')->T {De with nx:=N} δ):Yku T U De δ:=h _ λ_ z=>z
theorem KitV.of (t1:kitOne K (.type "int") (.type "int")=some true)(t2:kitOne K (.type "int") (.type "bool")=some false)(t3:kitOne K (.type "int") (.type "str")=some false)(t4:kitOne K (.type "int") (.type "tuple")=some false)(t5:kitOne K (.type "int") (.type "list")=some false)(t6:kitOne K (.type "bool") (.type "int")=some true)(t7:kitOne K (.type "bool") (.type "bool")=some true)(t8:kitOne K (.type "bool") (.type "str")=some false)(t9:kitOne K (.type "bool") (.type "tuple")=some false)(t10:kitOne K (.type "bool") (.type "list")=some false)(t11:kitOne K (.type "NoneType") (.type "int")=some false)(t12:kitOne K (.type "NoneType") (.type "bool")=some false)(t13:kitOne K (.type "NoneType") (.type "str")=some false)(t14:kitOne K (.type "NoneType") (.type "tuple")=some false)(t15:kitOne K (.type "NoneType") (.type "list")=some false)(t16:kitOne K (.type "str") (.type "int")=some false)(t17:kitOne K (.type "str") (.type "bool")=some false)(t18:kitOne K (.type "str") (.type "str")=some true)(t19:kitOne K (.type "str") (.type "tuple")=some false)(t20:kitOne K (.type "str") (.type "list")=some false)(t21:kitOne K (.type "tuple") (.type "int")=some false)(t22:kitOne K (.type "tuple") (.type "bool")=some false)(t23:kitOne K (.type "tuple") (.type "str")=some false)(t24:kitOne K (.type "tuple") (.type "tuple")=some true)(t25:kitOne K (.type "tuple") (.type "list")=some false)(t26:kitOne K (.type "list") (.type "int")=some false)(t27:kitOne K (.type "list") (.type "bool")=some false)(t28:kitOne K (.type "list") (.type "str")=some false)(t29:kitOne K (.type "list") (.type "tuple")=some false)(t30:kitOne K (.type "list") (.type "list")=some true)(t31:kitOne K (.type "dict") (.type "int")=some false)(t32:kitOne K (.type "dict") (.type "bool")=some false)(t33:kitOne K (.type "dict") (.type "str")=some false)(t34:kitOne K (.type "dict") (.type "tuple")=some false)(t35:kitOne K (.type "dict") (.type "list")=some false):KitV K:=by
 refine⟨λd ⟨hd,hd2,hd3⟩ n hn=>?_⟩
 simp only[Xr2,mem_cons,List.mem_nil_iff,or_false]at hn
 cases d with
 |ty m=>exact absurd rfl (hd m)
 |fn m=>exact absurd rfl (hd2 m)
 |int _=>
  rcases hn with rfl |rfl |rfl |rfl |rfl
  .exact t1
  .exact t2
  .exact t3
  .exact t4
  .exact t5
 |bl _=>
  rcases hn with rfl |rfl |rfl |rfl |rfl
  .exact t6
  .exact t7
  .exact t8
  .exact t9
  .exact t10
 |non=>
  rcases hn with rfl |rfl |rfl |rfl |rfl
  .exact t11
  .exact t12
  .exact t13
  .exact t14
  .exact t15
 |str _=>
  rcases hn with rfl |rfl |rfl |rfl |rfl
  .exact t16
  .exact t17
  .exact t18
  .exact t19
  .exact t20
 |tup _=>
  rcases hn with rfl |rfl |rfl |rfl |rfl
  .exact t21
  .exact t22
  .exact t23
  .exact t24
  .exact t25
 |lst _=>
  rcases hn with rfl |rfl |rfl |rfl |rfl
  .exact t26
  .exact t27
  .exact t28
  .exact t29
  .exact t30
 |dic=>
  rcases hn with rfl |rfl |rfl |rfl |rfl
  .exact t31
  .exact t32
  .exact t33
  .exact t34
  .exact t35
 |exc m=>exact absurd rfl (hd3.1 m)
 |obj c ns ds=>exact absurd rfl (hd3.2 c ns ds)
end
end L2
namespace PySem
open AutoSeq1
abbrev Xvz (T:String)(od:Option Addr)(xs:Array Value)(k:Nat)(sl:Array (Option Value)):Obj:={cls:=.type T,dict:=od,data:=.seq xs k,slots:=sl}
theorem Xn5 (l b:Addr)(xs ys:Array Value)(k m:Nat)(od:Option Addr)(sl:Array (Option Value))(h0:¬(!xs.isEmpty && Builtin.List.listTooLong (xs.size+ys.size))=true)(h1:xs.size<=sizeLine)(h2:xs.size+ys.size<=sizeLine+1):
  Meets (Builtin.«list.extend» ⟨[.ref l,.ref b],[]⟩) (λ_ R s=>s.heap.get? l=some (Xvz "list" none xs k #[])/\s.heap.get? b=some (Xvz "list" od ys m sl)/\R (.ok (.ret .none)) {s with heap:=s.heap.update l (Obj.mapSeq (·++ys)),toks:=s.toks}):=by
 refine .of_wp λprog w A R s hR=>?_
 obtain⟨sh,sg,sd,st,so⟩:=s
 obtain⟨e1,e2,fin⟩:=hR
 have i1:=idx_int
 have i2:=sub_tuple_tuple
 have i3:=sub_list_list
 have i4:=sub_tuple_list
 have i5:=sub_list_tuple
 have room:(xs++ys).size<=sizeLine+1:=by
  rw[size_append]
  exact h2
 wp_walk using (wpAny_updateSeq e1 rfl (hz:=h1) (_hz':=room)),wpAny_loadPart' e1,wpAny_loadPart' e2
 exact⟨_,rfl,fin⟩
theorem Xm6 (l b:Addr)(xs ys:Array Value)(k m:Nat)(od:Option Addr)(sl:Array (Option Value))(h0:¬(!xs.isEmpty && Builtin.List.listTooLong (xs.size+ys.size))=true)(h1:xs.size<=sizeLine)(h2:xs.size+ys.size<=sizeLine+1):
  Meets (Builtin.«list.extend» ⟨[.ref l,.ref b],[]⟩) (λ_ R s=>s.heap.get? l=some (Xvz "list" none xs k #[])/\s.heap.get? b=some (Xvz "tuple" od ys m sl)/\R (.ok (.ret .none)) {s with heap:=s.heap.update l (Obj.mapSeq (·++ys)),toks:=s.toks}):=by
 refine .of_wp λprog w A R s hR=>?_
 obtain⟨sh,sg,sd,st,so⟩:=s
 obtain⟨e1,e2,fin⟩:=hR
 have i1:=idx_int
 have i2:=sub_tuple_tuple
 have i3:=sub_list_list
 have i4:=sub_tuple_list
 have i5:=sub_list_tuple
 have room:(xs++ys).size<=sizeLine+1:=by
  rw[size_append]
  exact h2
 wp_walk using (wpAny_updateSeq e1 rfl (hz:=h1) (_hz':=room)),wpAny_loadPart' e1,wpAny_loadPart' e2
 exact⟨_,rfl,fin⟩
theorem Xs7 (l b:Addr)(xs ys:Array Value)(k m:Nat)(od oe:Option Addr)(sl sm:Array (Option Value))(h0:xs.size+ys.size<=sizeLine):
  Meets (Builtin.«list.__add__» ⟨[.ref l,.ref b],[]⟩) (λ_ R s=>s.heap.get? l=some (Xvz "list" od xs k sl)/\s.heap.get? b=some (Xvz "list" oe ys m sm)/\R (.ok (.ret (.ref s.heap.objs.size))) {s with heap:=s.heap.push {cls:=.type "list",data:=.seq (xs++ys)},toks:=s.toks}):=by
 refine .of_wp λprog w A R s hR=>?_
 obtain⟨sh,sg,sd,st,so⟩:=s
 obtain⟨e1,e2,fin⟩:=hR
 have i1:=idx_int
 have i2:=sub_tuple_tuple
 have i3:=sub_list_list
 have i4:=sub_tuple_list
 have i5:=sub_list_tuple
 wp_walk using wpAny_loadPart' e1,wpAny_loadPart' e2
 exact⟨_,rfl,fin⟩
end PySem
namespace L2
open PySem PySem.Spec PyProof.Rows
section
variable {X:Cx}{K:Frag}
def Xua (K:Frag):V->List V->Hp->VK->Prop:=λx vs H Q=>∃l b xs zs,x = .ref l/\vs=[.ref b]/\H l=some (.lst xs)/\(SqL K H b zs∨SqT K H b zs)/\xs.length+zs.length<=sizeLine/\Q .non (upd H l (.lst (xs++zs)))
theorem Xvv:MtM X "list.extend" (Xua X.K):=by
 intro pins s Y H x vs v us Q I rx rv h
 obtain⟨l,b,xs,zs,rfl,rfl,hH,hB,hz,q⟩:=h
 cases rx
 obtain⟨u,rfl,ru⟩:=rv.one
 cases ru
 obtain⟨z,its,n,r,hl,e⟩:=I.lstM hH
 have room:∀ys:List Value,ys.length=zs.length->its.toArray.size+ys.toArray.size<=sizeLine:=λys hy=>by rw[size_toArray,size_toArray];omega
 have fits:∀ys:List Value,ys.length=zs.length->¬ (!its.toArray.isEmpty && Builtin.List.listTooLong (its.toArray.size+ys.toArray.size))=true:=λys hy=>by
  rw[Xui (room ys hy),Bool.and_false]
  exact Bool.false_ne_true
 have fin:∀ys:List Value,Xb5 zs ys->EP X pins Y Q .none {s with heap:=s.heap.update l (Obj.mapSeq (·++ys.toArray)),toks:=s.toks}:=λys ry=>
  ⟨.non,_,I.lset (its':=its++ys) hH e (by simp) (r.append ry) (by rw[length_append];omega),rfl,q⟩
 rcases hB with hB |hB
 .obtain ⟨ys,ry,⟨o,m,e2,o1,o2,o3⟩,_⟩:=I.list hB
  obtain⟨oc,od,oda,osl⟩:=o
  dsimp only at o1 o3
  subst o1 o3
  have hy:=ry.length
  exact call_meets F.slot_list_extend ⟨_,e,rfl⟩ F.entry_list_extend (F.args_list_extend_2 _ _) (Xn5 l b its.toArray ys.toArray n m od osl (fits ys hy.symm) (by rw[size_toArray];omega) (by have:=room ys hy.symm;omega)) ⟨e,e2,fin ys ry⟩
 .obtain ⟨ys,ry,⟨o,e2,o1,m,o3⟩,_⟩:=I.tuple hB
  obtain⟨oc,od,oda,osl⟩:=o
  dsimp only at o1 o3
  subst o1 o3
  have hy:=ry.length
  exact call_meets F.slot_list_extend ⟨_,e,rfl⟩ F.entry_list_extend (F.args_list_extend_2 _ _) (Xm6 l b its.toArray ys.toArray n m od osl (fits ys hy.symm) (by rw[size_toArray];omega) (by have:=room ys hy.symm;omega)) ⟨e,e2,fin ys ry⟩
def Yil (K:Frag):R2:=λx y H Q=>∃l b xs zs,x = .ref l/\y = .ref b/\SqL K H l xs/\SqL K H b zs/\xs.length+zs.length<=sizeLine/\∀p H',H p=none->Xbi H H'->H' p=some (.lst (xs++zs))->Q (.ref p) H'
theorem Xm1:OpR X (binaryOp .Add) (Yil X.K):=by
 intro pins s Y H x y v u Q I rx ry h
 obtain⟨l,b,xs,zs,rfl,rfl,hA,hB,hz,q⟩:=h
 cases rx
 cases ry
 obtain⟨its,r,⟨o,n,e,o1,o2,o3⟩,_⟩:=I.list hA
 obtain⟨its2,r2,⟨o',n2,e2,p1,p2,p3⟩,_⟩:=I.list hB
 obtain⟨oc,od,oda,osl⟩:=o
 obtain⟨pc,pd,pda,psl⟩:=o'
 dsimp only at o1 o3 p1 p3
 subst o1 o3 p1 p3
 have l1:=r.length
 have l2:=r2.length
 refine PySem.concat_meets ⟨_,e,rfl⟩ ⟨_,e2,rfl⟩ PySem.noFill_list_add PySem.seq_list_add F.slot_list_add F.entry_list_add (F.args_list_add_2 _ _) (Xs7 l b its.toArray its2.toArray n n2 od pd osl psl (by rw[size_toArray,size_toArray];omega)) ⟨e,e2,?_⟩
 have ea:its.toArray++its2.toArray=(its++its2).toArray:=by simp
 rw[ea]
 exact⟨.ref _,_,I.lnew (t':=s.toks) (r.append r2) (by rw[length_append];omega),rfl,q _ _ I.fresh (Xbi.new I.fresh) Xay⟩
def Ykf (Ea Eb:DE):DO:=λδ P=>Ea δ λx=>Eb δ λy=>match x,y with
 | .lst xs,.lst ys=>xs.length+ys.length<=1000000/\P (.nl ((xs++ys).map .fz))
 |_,_=>False
theorem Xmr {ta tb:TE}{Ea Eb:DE}(ha:Xeh K ta Ea)(hb:Xeh K tb Eb):Xjx K (tOp (Yil K) ta tb) (Ykf Ea Eb):=λF0 H0 F H Y δ P Q e w q=>
 ha F0 H0 F H Y δ _ _ e w λx v F1 H1 w1 x1 r1=>hb F0 H0 F1 H1 Y δ _ _ (e.on x1) w1 λy u F2 H2 w2 x2 r2=>by
  have x12:=x1.trans x2
  split at w2
  .obtain ⟨p,vs,rfl,h1,h2⟩:=r1.mono x2.ff
   obtain⟨p',vs',rfl,h1',h2'⟩:=r2
   have l1:=h2.length
   have l2:=h2'.length
   exact⟨p,p',vs,vs',rfl,rfl,x2.fh.seq h1,x2.fh.seq h1',Xcj (by omega),λl H' l0 sm lq=>q _ _ F2 H' w2.2 (x12.trans (Ext.grow x2.fh sm)) (Xno.list (x12.hh.free l0) (x2.fh.free l0) lq (h2.append h2'))⟩
  .exact w2.elim
def Itw (K:Frag)(a:Addr)(n:Nat):It:=
 ⟨λi H=>∃xs x,SqL K H a xs/\xs.length=n/\i<n/\xs[n-1-i]?=some x,λi H x H'=>H'=H/\∀xs,SqL K H a xs->xs[n-1-i]?=some x,λi _=>n<=i⟩
theorem Xwp {P:Program}{w:World}{K:Frag}{tg:Expr}(a it:Addr)(n:Nat):Turn P w K tg (Itw K a n) [it] it (λi h=>i<=n/\h.IsRevIter it a ((n:Int)-1-(i:Nat))) where
 mem:=by simp
 obj:=λi h st b hb=>by
  have e:b=it:=by simpa using hb
  subst e
  obtain⟨_,o,ho,_,hd⟩:=st
  exact⟨o,ho,λv z=>by rw[hd]at z;cases z⟩
 keep:=λi h h' st k=>⟨st.1,st.2.at λo e=>k it (by simp) o e⟩
 item:=by
  kj_on
  obtain⟨xs,x,hq,hn,hi,hx⟩:=hg
  obtain⟨its,rv,p,hz⟩:=I.list hq
  obtain⟨u,hu,ru⟩:=rv.get hx
  obtain⟨f0,f1,f2,f3,f4,f5⟩:=hf it (by simp)
  have st0:s.heap.IsRevIter it a (((n-1-i:Nat)):Int):=by
   have e:(((n-1-i:Nat)):Int)=(n:Int)-1-(i:Nat):=by omega
   rw[e];exact st.2
  refine PySem.wpAny_pyNext_rev_item st0 p.isList (x:=u) (by simpa using hu) λh' st' sb=>?_
  have I1:Inv X pins Y H {s with heap:=h',toks:=s.toks}:=I.turned (t':=s.toks) (λb o hb e=>(sb.2 b hb).trans e) f0 f1 f3 f4 f5
  have st1:h'.IsRevIter it a ((n:Int)-1-((i+1:Nat):Int)):=by
   have e:(n:Int)-1-((i+1:Nat):Int)=(((n-1-i:Nat)):Int)-1:=by omega
   rw[e];exact st'
  obtain⟨o,ho,hc',hd'⟩:=id st1
  exact⟨u,rfl,Xtb (s:={s with heap:=h',toks:=s.toks}) (n := "list_reverseiterator") ho hc' hd' (by decide) ⟨x,H,I1,ru,⟨rfl,λys hy=>by rw[I.list_inj hy hq];exact hx⟩,⟨by omega,st1⟩,λb hb=>(hf b hb).1⟩⟩
 done:=by
  kj_on
  obtain⟨f0,f1,f2,f3,f4,f5⟩:=hf it (by simp)
  have st0:s.heap.IsRevIter it a (-1):=by
   have h1:=st.1
   have h2:n<=i:=hg
   have e:(-1:Int)=(n:Int)-1-(i:Nat):=by omega
   rw[e];exact st.2
  exact PySem.wpAny_pyNext_rev_end (I.ok.hd hc) st0 λh' eb=>⟨rfl,I.turned (t':=s.toks) (λb o hb e=>eb b o hb e) f0 f1 f3 f4 f5⟩
 self:=λ_ _ _ _ _ st h=>PySem.wpAny_pyIter_revIter st.2 h
def Yjt (K:Frag)(ta:TA):TI:=λY H R=>ta Y H λvs H1=>∃a xs,vs=[.ref a]/\SqL K H1 a xs/\R (Itw K a xs.length) H1
theorem Xrd {tg l:Expr}{ta:TA}{p pos:Pos}(hg:Gl X "reversed")(hm:X.mg "reversed"=none)(ha:PA X [l] ta)(hs:starEach [l] X.env=[(false,eval l X.env)]:=by rfl):PI X tg (.Call (.Name "reversed" p) [l] [] pos) (Yjt X.K ta):=by
 intro pins s Y H R I h
 refine Call_ (Xkf I hg hm PyProof.Rows.boot_reversed (PyProof.Rows.callWith_type1 (thn (ha pos pins s Y H _ I h) λus s1 ⟨vs,H1,I1,r1,q1⟩=>?_) hs rfl))
 obtain⟨a,xs,e,hq,q⟩:=q1
 subst e
 obtain⟨u,rfl,ru⟩:=Xiy r1
 cases ru
 obtain⟨its,rv,pt,hz⟩:=I1.list hq
 have hl:=rv.length
 refine PySem.call_reversed_list (items:=its.toArray) pt.isList ?_
 have e0:(s1.heap.push (revObj a ((its.toArray.size:Int)-1))).IsRevIter s1.heap.objs.size a ((xs.length:Int)-1-((0:Nat):Int)):=by
  have e:(xs.length:Int)-1-((0:Nat):Int)=(its.toArray.size:Int)-1:=by rw[size_toArray,hl];omega
  rw[e]
  exact⟨_,get?_push_size _ rfl,rfl,rfl⟩
 refine PySem.wpAny_pyIter_revIter e0 ?_
 refine⟨s1.heap.objs.size,[s1.heap.objs.size],_,_,H1,rfl,I1.kept (t':=s1.toks) λb o e=>get?_push_of_some _ e,Xwp a _ xs.length,⟨zero_le _,e0⟩,λb hb=>?_,q⟩
 have e:b=s1.heap.objs.size:=by simpa using hb
 subst e
 exact I1.fpOk (Nat.le_refl _) (I1.hok.fresh (Nat.le_refl _))
def Yj5 (As:DA):DA:=λδ P=>As δ λds=>match ds with
 | [.lst xs]=>P xs.reverse
 |_=>False
theorem Yeu {a:TA}{As:DA}(h:Xk7 K a As):Yb9 K (Yjt K a) (Yj5 As):=λF0 H0 F H Y δ P R e w q=>h F0 H0 F H Y δ _ _ e w λds vs F' H' p x r=>by
 try dsimp only at p
 split at p
 .obtain ⟨v,rfl,a,us,rfl,h1,h2⟩:=Xjm r
  have hl:=h2.length
  refine⟨a,us,rfl,x.fh.seq h1,q _ _ F' H' p x λF1 H1 s1 s2=>?_⟩
  have hq:=(s1.trans s2).seq h1
  rw[length_reverse]
  refine⟨λi hi=>⟨us,us[us.length-1-i]'(by omega),hq,rfl,by omega,getElem?_eq_getElem (by omega)⟩,by show us.length<=_;omega,λi x H2 hi y=>?_⟩
  obtain⟨rfl,y⟩:=y
  obtain⟨d,hd,rd⟩:=h2.get' (y us hq)
  refine⟨d,F1,?_,Ext.refl s2,rd.mono s1⟩
  rw[getElem?_reverse hi,hl];exact hd
 .exact p.elim
theorem ER.frz {F0 H0 F H:Hp}{Y:St}{δ:Dst}{A:Nat->List Addr}(e:ER K F0 H0 F H Y δ A)(i:Nat){t:OV}(hi:δ[i]?=some (some (.own t))):∃F',Xf1 K F0 H0 F' H Y (δ.set i (some (.own (.fz t.val)))):=by
 obtain⟨v,hv,hr⟩:=e.own i t hi
 have hlt:=(List.getElem?_eq_some_iff.mp hi).1
 have sm:Xbi F λa=>if a∈A i then H a else F a:=λb o z=>by
  have hb:b∉A i:=λy=>by rw[(e.new i b y).1]at z;cases z
  dsimp only
  rw[if_neg hb];exact z
 refine⟨λa=>if a∈A i then H a else F a,λj=>if j=i then [] else A j,by simp[e.len],⟨e.ext.ff.trans sm,e.ext.hh,λb o z=>?_,λb o z1 z2 z3=>?_⟩,λj u hj=>?_,λj d hj=>?_,λj=>?_,λj k a hjk h1 h2=>?_,λj a ha=>?_⟩
 .try dsimp only at z
  split at z
  .exact z
  .exact e.ext.fh _ _ z
 .have hb:b∉A i:=λy=>by rw[(e.new i b y).2.1]at z2;cases z2
  rw[if_neg hb];exact e.ext.no b o z1 z2 z3
 .try dsimp only
  by_cases z:j=i
  .subst z
   rw[if_pos rfl]
   rw[getElem?_set_self hlt]at hj
   cases hj
   exact⟨v,hv,rfl,hr.rep sm λa ha xs q=>by rw[if_pos ha];exact q⟩
  .rw [if_neg z]
   rw[getElem?_set_ne (Ne.symm z)]at hj
   obtain⟨v',h1,h2⟩:=e.own j u hj
   exact⟨v',h1,h2.frame sm λa _ xs q=>q⟩
 .by_cases z:j=i
  .subst z
   rw[getElem?_set_self hlt]at hj
   cases hj
  .rw [getElem?_set_ne (Ne.symm z)]at hj
   exact e.bw j d hj
 .try dsimp only
  split
  .exact nodup_nil
  .exact e.nod j
 .try dsimp only at h1 h2
  split at h1
  .cases h1
  .split at h2
   .cases h2
   .exact e.dis j k a hjk h1 h2
 .try dsimp only at ha
  split at ha
  .cases ha
  .rename_i z
   obtain⟨h1,h2,h3⟩:=e.new j a ha
   refine⟨?_,h2,h3⟩
   rw[if_neg λy=>e.dis j i a z ha y];exact h1
def Yk7 (i:Nat)(T:DS):DS:=λDe δ=>match δ[i]? with
 |some (some (.own t))=>T De (δ.set i (some (.own (.fz t.val))))
 |_=>False
theorem Xxf {t:TS}{T:DS}(i:Nat)(h:Xeg K t T):Xeg K t (Yk7 i T):=λF0 H0 F H Y δ De En ⟨A,e⟩ l w=>by
 unfold Yk7 at w
 split at w
 .rename_i u hu
  obtain⟨F',e'⟩:=e.frz i hu
  exact h F0 H0 F' H Y _ De En e' l w
 .exact w.elim
def Ye7 (i:Nat)(Ei:DE)(E:DO):DS:=λDe δ=>match δ[i]? with
 |some (some (.own (.nl ts)))=>Ei δ λk=>match k with
  | .int k=>0<=k/\∃us,ts[k.toNat]?=some (.nl us)/\us.length<1000000/\E δ λr=>De.nx (δ.set i (some (.own (.nl (ts.set k.toNat (.nl (us++[r])))))))
  |_=>False
 |_=>False
theorem Xgw {α:Type}{xs:List α}{i:Nat}{v:α}(h:xs[i]?=some v):xs.set i v=xs:=by
 obtain⟨hi,e⟩:=List.getElem?_eq_some_iff.mp h
 rw[<- e];exact List.set_getElem_self hi
theorem Yep {i:Nat}{ti te:TE}{Ei:DE}{Eo:DO}(hi:Xgi K ti Ei)(h:Xjx K te Eo):Xeg K (Xqd (tBM K "list" rAppend (tOp (Ykv K) (Xnr i) ti) (Xiz te Xqc))) (Ye7 i Ei Eo):=λF0 H0 F H Y δ De En e l w=>by
 obtain⟨A,e⟩:=e
 unfold Ye7 at w
 split at w
 .rename_i ts hs
  obtain⟨v,hv,a,vs,B,rfl,eA,ha,hB⟩:=e.own i _ hs
  refine⟨_,hv,?_⟩
  refine hi F0 H0 F H Y δ _ _ ⟨A,e⟩ w λk kv F1 H1 p x1 r1=>?_
  split at p
  .rename_i k
   obtain⟨k0,us,hk,hus,p⟩:=p
   have e1:=e.on x1
   have ha1:=x1.hh _ _ ha
   have hB1:Xa7 K F1 H1 ts vs B:=hB.frame x1.ff λb _ xs z=>x1.hh _ _ z
   obtain⟨v0,A1,B0,A2,f1,rfl,f3,f4⟩:=hB1.focus hk
   obtain⟨c,ws,B1,rfl,rfl,hc,hws⟩:=f3
   have at1:atI vs k=some (.ref c):=by
    have:=Xfa f1
    rwa[show ((k.toNat:Nat):Int)=k by omega]at this
   refine⟨a,vs,k,.ref c,rfl,r1,SqL.of ha1,at1,.inl ⟨rfl,_,SqL.of hc⟩,?_⟩
   refine h F0 H0 F1 H1 Y δ _ _ ⟨A,e1⟩ p λr u F2 H2 p2 x2 n=>?_
   obtain⟨C,c1,c2,c3⟩:=n
   have e2:=e1.on x2
   have hl:=hws.length
   refine⟨c,ws,u,rfl,rfl,x2.hh _ _ hc,Xwx (by omega),?_⟩
   have hnd:=e.nod i
   rw[eA]at hnd
   have hA:A i=a::(A1++(c::B1++A2)):=eA
   obtain⟨n1,n2⟩:=nodup_cons.mp hnd
   obtain⟨m1,m2,m3⟩:=nodup_append.mp n2
   obtain⟨q1,q2,q3⟩:=nodup_append.mp m2
   obtain⟨s1,s2⟩:=nodup_cons.mp q1
   have hCA:∀j b,b∈C->b∉A j:=λj b hb z=>by
    obtain⟨_,_,xs,q,_⟩:=e1.new j b z
    rw[(c3 b hb).1]at q;cases q
   have hcA:c∈A i:=by rw[hA];simp
   have hac:a≠c:=λz=>n1 (by rw[z];simp)
   have hcC:c∉C:=λz=>hCA i c z hcA
   have off:∀b∈A1++A2,b≠c:=λb hb z=>by
    subst z
    rcases mem_append.mp hb with y |y
    .exact m3 b y b (by simp) rfl
    .exact q3 b (by simp) b y rfl
   have ina:∀b,b∈a::(A1++(c::(B1++C)++A2))->b∈A i∨b∈C:=λb hb=>by
    rw[hA]
    simp only[mem_cons,mem_append,cons_append]at hb ⊢
    rcases hb with z |z |z | (z |z) |z<;>simp[z]
   have f4':=f4 F2 (upd H2 c (.lst (ws++[u]))) (.nl (us++[r])) (.ref c) (c::(B1++C)) x2.ff (λb hb xs z=>Xav (off b hb) (x2.hh _ _ z))
    ⟨c,ws++[u],B1++C,rfl,rfl,Xay,Xa7.append (hws.frame x2.ff λb hb xs z=>Xav (λy=>s1 (by rw[<- y];exact hb)) (x2.hh _ _ z)) (Xa7.one (c1.frame (Xbi.refl _) λb hb xs z=>Xav (λy=>hcC (by rw[<- y];exact hb)) z))⟩
   rw[Xgw f1]at f4'
   refine l.nx F2 _ Y _ (e2.change i hv (t':=.nl (ts.set k.toNat (.nl (us++[r])))) (B:=a::(A1++(c::(B1++C)++A2))) ⟨a,vs,_,rfl,rfl,Xav hac (x2.hh _ _ ha1),f4'⟩ ?_ ?_ ?_ ?_) p2
   .have dC:∀x∈C,∀y∈A i,x≠y:=λx hx y hy z=>hCA i x hx (by rw[z];exact hy)
    rw[hA]at dC
    simp only[cons_append,nodup_cons,nodup_append,mem_cons,mem_append,not_or,ne_eq]at hnd n1 n2 m1 m2 m3 q1 q2 q3 s1 s2 ⊢
    refine⟨⟨n1.1,n1.2.1,⟨n1.2.2.1,λz=>dC a z a (by simp) rfl⟩,n1.2.2.2⟩,m1,⟨⟨⟨s1,hcC⟩,λz=>?_⟩,⟨s2,c2,λx hx y hy z=>dC y hy x (by simp[hx]) z.symm⟩,q2,λx hx y hy z=>?_⟩,λx hx y hy z=>?_⟩
    .exact q3 c (by simp) c z rfl
    .rcases hx with hx |hx
     .exact q3 x (by simp[hx]) y hy z
     .exact dC x hx y (by simp[hy]) z
    .rcases hy with hy | (hy |hy) |hy
     .exact m3 x hx y (by simp[hy]) z
     .exact m3 x hx y (by simp[hy]) z
     .exact dC y hy x (by simp[hx]) z.symm
     .exact m3 x hx y (by simp[hy]) z
   .intro b hb
    rcases ina b hb with z |z
    .exact ⟨(e2.new i b z).1,(e2.new i b z).2.1⟩
    .exact ⟨(c3 b z).2,e1.ext.hh.free (c3 b z).1⟩
   .intro j hj b hb z
    rcases ina b hb with y |y
    .exact e.dis j i b hj z y
    .exact hCA j b y z
   .intro b o hb q
    exact Xav (λz=>hb (by rw[z];exact hcA)) q
  .exact p.elim
 .exact w.elim
def Yk9 (i:Nat)(E:DE):DS:=λDe δ=>match δ[i]? with
 |some (some (.own (.nl ts)))=>E δ λd=>match d with
  | .lst ds=>ts.length+ds.length<=1000000/\De.nx (δ.set i (some (.own (.nl (ts++ds.map .fz)))))
  | .tup ds=>ts.length+ds.length<=1000000/\De.nx (δ.set i (some (.own (.nl (ts++ds.map .fz)))))
  |_=>False
 |_=>False
theorem Yh2 {i:Nat}{te:TE}{E:DE}(h:Xeh K te E):Xeg K (Xqd (tBM K "list" (Xua K) (Xnr i) (Xiz te Xqc))) (Yk9 i E):=λF0 H0 F H Y δ De En e l w=>by
 obtain⟨A,e⟩:=e
 unfold Yk9 at w
 split at w
 .rename_i ts hs
  obtain⟨v,hv,a,vs,B,rfl,eA,ha,hB⟩:=e.own i _ hs
  refine⟨_,hv,.inl ⟨rfl,_,SqL.of ha⟩,?_⟩
  refine h F0 H0 F H Y δ _ _ ⟨A,e⟩ w λd u F1 H1 p x1 r1=>?_
  have e1:=e.on x1
  have hl:=hB.length
  have hB1:Xa7 K F1 H1 ts vs B:=hB.frame x1.ff λb _ xs z=>x1.hh _ _ z
  have hnd:=e.nod i
  rw[eA]at hnd
  obtain⟨n1,n2⟩:=nodup_cons.mp hnd
  have fin:∀(ds:List D) (us:List V),Xb4 K F1 ds us->De.nx (δ.set i (some (.own (.nl (ts++ds.map .fz)))))->En.nx Y (upd H1 a (.lst (vs++us))):=λds us hu p=>by
   refine l.nx F1 _ Y _ (e1.change i hv (t':=.nl (ts++ds.map .fz)) (B:=a::(B++[])) ⟨a,vs++us,B++[],rfl,rfl,Xay,?_⟩ ?_ ?_ ?_ ?_) p
   .exact Xa7.append (hB1.frame (Xbi.refl _) λb hb xs z=>Xav (λq=>n1 (by rw[<- q];exact hb)) z) (Xa7.fzs hu)
   .rw [append_nil];exact hnd
   .intro b hb
    rw[append_nil,<- eA]at hb
    exact⟨(e1.new i b hb).1,(e1.new i b hb).2.1⟩
   .intro j hj b hb z
    rw[append_nil,<- eA]at hb
    exact e.dis j i b hj z hb
   .intro b o hb q
    exact Xav (λz=>hb (by rw[eA,z];exact mem_cons_self)) q
  try dsimp only at p
  split at p
  .obtain ⟨c,us,rfl,q1,q2⟩:=r1
   have:=q2.length
   exact⟨a,c,vs,us,rfl,rfl,x1.hh _ _ ha,.inl (x1.fh.seq q1),Xcj (by omega),fin _ us q2 p.2⟩
  .obtain ⟨c,us,rfl,q1,q2⟩:=r1
   have:=q2.length
   exact⟨a,c,vs,us,rfl,rfl,x1.hh _ _ ha,.inr (x1.fh.seqT q1),Xcj (by omega),fin _ us q2 p.2⟩
  .exact p.elim
 .exact w.elim
end
def Ylx:DR2:=λx y P=>match x,y with
 | .tup xs,.tup ys=>xs≠[]/\ys≠[]/\xs.length+ys.length<=1000000/\P (.tup (xs++ys))
 |_,_=>False
def D.fit:Nat->D->Bool
 |_,.int _=>true
 |_,.str _=>true
 |_,.non=>true
 |_,.bl _=>true
 |_,.ty _=>false
 |_,.fn _=>false
 |_,.dic=>false
 |_,.exc _=>false
 |_,.obj _ _ _=>false
 | 0,.tup _=>false
 | 0,.lst _=>false
 |n+1,.tup ds=>ds.all (D.fit n)
 |n+1,.lst ds=>ds.all (D.fit n)
mutual
def D.eqb:D->D->Bool
 | .int i,.int j=>decide (i=j)
 | .str x,.str y=>decide (x=y)
 | .non,.non=>true
 | .bl a,.bl b=>a==b
 | .bl a,.int j=>decide ((if a then 1 else 0)=j)
 | .int i,.bl b=>decide (i=if b then 1 else 0)
 | .tup xs,.tup ys=>D.eqbs xs ys
 | .lst xs,.lst ys=>D.eqbs xs ys
 |_,_=>false
def D.eqbs:List D->List D->Bool
 | [],[]=>true
 |x::xs,y::ys=>D.eqb x y && D.eqbs xs ys
 |_,_=>false
end
mutual
theorem D.eqb_refl:∀{d:D} {n:Nat},d.fit n=true->D.eqb d d=true
 | .int _,_,_=>by simp[D.eqb]
 | .str _,_,_=>by simp[D.eqb]
 | .non,_,_=>by simp[D.eqb]
 | .bl _,_,_=>by simp[D.eqb]
 | .ty _,_,h=>by simp[D.fit]at h
 | .fn _,_,h=>by simp[D.fit]at h
 | .dic,_,h=>by simp[D.fit]at h
 | .exc _,_,h=>by simp[D.fit]at h
 | .obj _ _ _,_,h=>by simp[D.fit]at h
 | .tup ds,0,h=>by simp[D.fit]at h
 | .lst ds,0,h=>by simp[D.fit]at h
 | .tup ds,n+1,h=>by
  simp only[D.eqb]
  exact D.eqbs_refl (n:=n) (by simpa only[D.fit] using h)
 | .lst ds,n+1,h=>by
  simp only[D.eqb]
  exact D.eqbs_refl (n:=n) (by simpa only[D.fit] using h)
theorem D.eqbs_refl:∀{ds:List D} {n:Nat},ds.all (D.fit n)=true->D.eqbs ds ds=true
 | [],_,_=>by simp[D.eqbs]
 |d::ds,n,h=>by
  rw[all_cons,and_eq_true]at h
  simp only[D.eqbs,D.eqb_refl h.1,D.eqbs_refl h.2,Bool.and_self]
end
def D.same:D->D->Bool
 | .tup _,.tup _=>true
 | .lst _,.lst _=>true
 |_,_=>false
def Ymx:DR2:=λx y P=>x.same y=true/\x.fit 4=true/\y.fit 4=true/\P (.bl (D.eqb x y))
def Yl0:List D->(D->Prop)->Prop:=λds P=>match ds with
 | [.lst xs]=>∃bs:List Bool,xs=bs.map D.bl/\P (.bl (bs.all id))
 |_=>False
def Yf5:List D->(D->Prop)->Prop:=λds P=>match ds with
 | [.lst xs]=>∃ns:List Int,xs=ns.map D.int/\0<ns.length/\∀M:Int,M∈ns->(∀a∈ns,a<=M)->P (.int M)
 |_=>False
def Ydp (E:DE):DT:=λδ P=>E δ λd=>match d with
 | .bl b=>P b
 | .int i=>P (decide (i≠0))
 | .lst xs=>P (!xs.isEmpty)
 | .tup xs=>P (!xs.isEmpty)
 | .non=>P false
 |_=>False
def Yh6 (i:Nat)(Ek Em E:DE):DS:=λDe δ=>E δ λd=>match δ[i]? with
 |some (some (.own (.nl ts)))=>Ek δ λk=>match k with
  | .int k=>∃j us,ixN ts.length k=some j/\ts[j]?=some (.nl us)/\Em δ λm=>match m with
   | .int m=>∃l,ixN us.length m=some l/\De.nx (δ.set i (some (.own (.nl (ts.set j (.nl (us.set l (.fz d))))))))
   |_=>False
  |_=>False
 |_=>False
def Xo4 {α:Type}(xs:List α)(c:Int):List α:=(sliceRange 0 xs.length c).filterMap (xs[·]?)
def Yj2 (Ea Ec:DE):DO:=λδ P=>Ea δ λx=>Ec δ λc=>match x,c with
 | .lst xs,.int c=>0<c/\P (.nl ((Xo4 xs c).map .fz))
 |_,_=>False
section
variable {K:Frag}{X:Cx}
def eD (xs ys:List D)(j:Nat):Bool:=match xs[j]?,ys[j]? with
 |some x,some y=>D.eqb x y
 |_,_=>true
theorem Xiu:∀(xs ys:List D),D.eqbs xs ys=((List.range (min xs.length ys.length)).all (eD xs ys) && xs.length==ys.length)
 | [],[]=>by simp[D.eqbs]
 | [],_::_=>by simp[D.eqbs]
 |_::_,[]=>by simp[D.eqbs]
 |x :: xs,y::ys=>by
  have ih:=Xiu xs ys
  simp only[D.eqbs,length_cons]
  rw[show min (xs.length+1) (ys.length+1)=min xs.length ys.length+1 by omega,List.range_succ_eq_map,all_cons,List.all_map,ih]
  have e0:eD (x::xs) (y::ys) 0=D.eqb x y:=rfl
  have e1:(eD (x::xs) (y::ys)∘Nat.succ)=eD xs ys:=by
   funext j
   simp[eD,Function.comp]
  rw[e0,e1,Bool.and_assoc]
  congr 2
  simp
theorem Xxt {pins:List (Addr×Obj)}{Y:St}{H:Hp}{s:Shared}(I:Inv X pins Y H s):∀(n:Nat) {x y:D} {v:V},x.fit n=true->y.fit n=true->Rep X.K H x v->Rep X.K H y v->D.eqb x y=true:=by
 have items:∀(n:Nat),(∀{x y:D} {v:V},x.fit n=true->y.fit n=true->Rep X.K H x v->Rep X.K H y v->D.eqb x y=true)->∀{xs ys:List D} {vs:List V},xs.all (D.fit n)=true->ys.all (D.fit n)=true->Xb4 X.K H xs vs->Xb4 X.K H ys vs->D.eqbs xs ys=true:=by
  intro n ih xs
  induction xs with
  |nil=>
   intro ys vs _ _ r1 r2
   cases r1
   cases ys with
   |nil=>rfl
   |cons y ys=>obtain⟨v,r,e,_⟩:=r2;cases e
  |cons x xs ihx=>
   intro ys vs f1 f2 r1 r2
   obtain⟨v,r,rfl,h1,h2⟩:=r1
   cases ys with
   |nil=>cases r2
   |cons y ys=>
    obtain⟨v',r',e,h3,h4⟩:=r2
    cases e
    rw[all_cons,and_eq_true]at f1 f2
    simp only[D.eqbs,ih f1.1 f2.1 h1 h3,ihx f1.2 f2.2 h2 h4,Bool.and_self]
 have tl:∀{a:Addr} {xs ys:List V},SqT X.K H a xs->SqL X.K H a ys->False:=λ{a xs ys} h1 h2=>by
  obtain⟨_,_,p1,_⟩:=I.tuple h1
  obtain⟨_,_,p2,_⟩:=I.list h2
  obtain⟨o,e1,c1,_⟩:=p1
  obtain⟨o',e2,c2,_⟩:=p2.isList
  rw[e1]at e2;cases e2
  rw[c1]at c2;simp at c2
 intro n
 induction n with
 |zero=>
  intro x y v fx fy rx ry
  cases x<;>cases y<;>simp[D.fit]at fx fy<;>simp[D.eqb]
  all_goals first
   | (have z:=(show v=_ from rx).symm.trans (show v=_ from ry);first | (injection z) | (cases z))
   |skip
 |succ n ih=>
  intro x y v fx fy rx ry
  cases x<;>cases y
  case tup.tup xs ys=>
   obtain⟨a,vs,rfl,h1,h2⟩:=rx
   obtain⟨b,us,e,h3,h4⟩:=ry
   cases e
   cases I.tuple_inj h1 h3
   simp only[D.eqb]
   exact items n ih (by simpa only[D.fit] using fx) (by simpa only[D.fit] using fy) h2 h4
  case lst.lst xs ys=>
   obtain⟨a,vs,rfl,h1,h2⟩:=rx
   obtain⟨b,us,e,h3,h4⟩:=ry
   cases e
   cases I.list_inj h1 h3
   simp only[D.eqb]
   exact items n ih (by simpa only[D.fit] using fx) (by simpa only[D.fit] using fy) h2 h4
  case tup.lst xs ys=>
   obtain⟨a,vs,rfl,h1,h2⟩:=rx
   obtain⟨b,us,e,h3,h4⟩:=ry
   cases e
   exact (tl h1 h3).elim
  case lst.tup xs ys=>
   obtain⟨a,vs,rfl,h1,h2⟩:=rx
   obtain⟨b,us,e,h3,h4⟩:=ry
   cases e
   exact (tl h3 h1).elim
  all_goals first
   | (simp[D.fit]at fx;done)
   | (simp[D.fit]at fy;done)
   | (have z:=(show v=_ from rx).symm.trans (show v=_ from ry);first | (cases z;done) | (injection z with z;simp[D.eqb,z];done) | (simp[D.eqb];done))
   | (obtain⟨a,vs,e,_⟩:=rx;have z:=e.symm.trans (show v=_ from ry);cases z;done)
   | (obtain⟨a,vs,e,_⟩:=ry;have z:=(show v=_ from rx).symm.trans e;cases z;done)
theorem Ydn {pins:List (Addr×Obj)}{Y:St}{H:Hp}{s:Shared}(I:Inv X pins Y H s):∀(n:Nat) {A:Around} {x y:D} {v u:V} {a b:Value},A.units+n<cLine->x.fit n=true->y.fit n=true->Rep X.K H x v->Rep X.K H y u->Xeb v a->Xeb u b->SeqAt.EqAt A s a b (D.eqb x y):=by
 intro n
 induction n with
 |zero=>
  intro A x y v u a b hu fx fy rx ry ra rb
  by_cases hbl:(∃c,x = .bl c)∨∃c,y = .bl c
  .cases x<;>cases y<;>first | (simp[D.fit]at fx;done) | (simp[D.fit]at fy;done) | (rcases hbl with⟨c,z⟩ | ⟨c,z⟩<;>cases z;done) |skip
   case bl.bl=>cases (show v=_ from rx);cases (show u=_ from ry);cases ra;cases rb;simp only[D.eqb];exact SeqAt.EqAt.bool_bool _ _
   case bl.int=>cases (show v=_ from rx);cases (show u=_ from ry);cases ra;obtain⟨t,rfl⟩:=rb;simp only[D.eqb];rw[<- show ∀i j:Int,(i==j)=decide (i=j) from λi j=>by rw[Bool.eq_iff_iff];simp];exact SeqAt.EqAt.bool_int _ _ _
   case int.bl=>cases (show v=_ from rx);cases (show u=_ from ry);cases rb;obtain⟨t,rfl⟩:=ra;simp only[D.eqb];rw[<- show ∀i j:Int,(i==j)=decide (i=j) from λi j=>by rw[Bool.eq_iff_iff];simp];exact SeqAt.EqAt.int_bool _ _ _
   case bl.non=>cases (show v=_ from rx);cases (show u=_ from ry);cases ra;cases rb;exact SeqAt.EqAt.bool_none _
   case non.bl=>cases (show v=_ from rx);cases (show u=_ from ry);cases ra;cases rb;exact SeqAt.EqAt.none_bool _
   case bl.str=>cases (show v=_ from rx);cases (show u=_ from ry);cases ra;obtain⟨t,rfl⟩:=rb;exact SeqAt.EqAt.bool_str _ _ _
   case str.bl=>cases (show v=_ from rx);cases (show u=_ from ry);cases rb;obtain⟨t,rfl⟩:=ra;exact SeqAt.EqAt.str_bool _ _ _
  have key:Yb1 v=true/\Yb1 u=true/\eqV v u=D.eqb x y:=by
   cases x<;>cases y<;>first | (simp[D.fit]at fx;done) | (simp[D.fit]at fy;done) | (exact absurd (.inl ⟨_,rfl⟩) hbl) | (exact absurd (.inr ⟨_,rfl⟩) hbl) |skip
   all_goals
    have e1:v=_:=rx
    have e2:u=_:=ry
    subst e1 e2
    refine⟨rfl,rfl,?_⟩
    first |rfl | (simp[eqV,D.eqb];done) | (simp only[eqV,D.eqb];exact Bool.beq_eq_decide_eq _ _)
  rw[<- key.2.2]
  exact Yjz ra rb key.1 key.2.1
 |succ n ih=>
  intro A x y v u a b hu fx fy rx ry ra rb
  have hu0:A.units<cLine:=by omega
  have hu1:A.in1.units+n<cLine:=by rw[show A.in1.units=A.units+1 from rfl];omega
  cases x<;>cases y
  case tup.tup xs ys=>
   obtain⟨p,vs,rfl,h1,h2⟩:=rx
   obtain⟨q,us,rfl,h3,h4⟩:=ry
   cases ra
   cases rb
   by_cases hpq:p=q
   .subst hpq
    have:=Xxt I (n+1) fx fy (v:=.ref p) ⟨p,vs,rfl,h1,h2⟩ ⟨p,us,rfl,h3,h4⟩
    rw[this]
    exact SeqAt.EqAt.same _
   .obtain ⟨its,w1,p1,_⟩:=I.tuple h1
    obtain⟨its2,w2,p2,_⟩:=I.tuple h3
    have l1:=h2.length
    have l2:=h4.length
    have m1:=w1.length
    have m2:=w2.length
    simp only[D.fit]at fx fy
    have:=SeqAt.RcAt.tuples (e:=eD xs ys) p1 p2 hu0 (λj j1 j2=>by
     obtain⟨z1,e1,r1⟩:=w1.at j1
     obtain⟨z2,e2,r2⟩:=w2.at j2
     obtain⟨d1,g1,k1⟩:=h2.get' e1
     obtain⟨d2,g2,k2⟩:=h4.get' e2
     have e:eD xs ys j=D.eqb d1 d2:=by unfold eD;rw[g1,g2]
     rw[e]
     exact ih hu1 (all_eq_true.mp fx d1 (mem_of_getElem? g1)) (all_eq_true.mp fy d2 (mem_of_getElem? g2)) k1 k2 r1 r2)
    rw[show its.toArray.size=xs.length by rw[size_toArray];omega,show its2.toArray.size=ys.length by rw[size_toArray];omega,<- Xiu]at this
    simp only[D.eqb]
    exact SeqAt.EqAt.of_refs hpq this
  case lst.lst xs ys=>
   obtain⟨p,vs,rfl,h1,h2⟩:=rx
   obtain⟨q,us,rfl,h3,h4⟩:=ry
   cases ra
   cases rb
   by_cases hpq:p=q
   .subst hpq
    have:=Xxt I (n+1) fx fy (v:=.ref p) ⟨p,vs,rfl,h1,h2⟩ ⟨p,us,rfl,h3,h4⟩
    rw[this]
    exact SeqAt.EqAt.same _
   .obtain ⟨its,w1,p1,_⟩:=I.list h1
    obtain⟨its2,w2,p2,_⟩:=I.list h3
    have l1:=h2.length
    have l2:=h4.length
    have m1:=w1.length
    have m2:=w2.length
    simp only[D.fit]at fx fy
    simp only[D.eqb]
    refine SeqAt.EqAt.of_refs hpq ?_
    by_cases hl:xs.length=ys.length
    .have:=SeqAt.RcAt.lists (e:=eD xs ys) p1.isList p2.isList (by rw[size_toArray,size_toArray];omega) hu0 (λj j1 j2=>by
      obtain⟨z1,e1,r1⟩:=w1.at j1
      obtain⟨z2,e2,r2⟩:=w2.at j2
      obtain⟨d1,g1,k1⟩:=h2.get' e1
      obtain⟨d2,g2,k2⟩:=h4.get' e2
      have e:eD xs ys j=D.eqb d1 d2:=by unfold eD;rw[g1,g2]
      rw[e]
      exact ih hu1 (all_eq_true.mp fx d1 (mem_of_getElem? g1)) (all_eq_true.mp fy d2 (mem_of_getElem? g2)) k1 k2 r1 r2)
     rw[Xiu,<- hl,min_self,beq_self_eq_true,Bool.and_true]
     rw[show its.toArray.size=xs.length by rw[size_toArray];omega]at this
     exact this
    .rw [Xiu,show (xs.length==ys.length)=false by simpa using hl,Bool.and_false]
     exact SeqAt.RcAt.lists_lengths p1.isList p2.isList (by rw[size_toArray,size_toArray];simp only[bne_iff_ne,ne_eq];omega) hu0
  case tup.lst xs ys=>
   obtain⟨p,vs,rfl,h1,h2⟩:=rx
   obtain⟨q,us,rfl,h3,h4⟩:=ry
   cases ra
   cases rb
   obtain⟨its,w1,p1,_⟩:=I.tuple h1
   obtain⟨its2,w2,p2,_⟩:=I.list h3
   exact SeqAt.EqAt.tuple_list p1 p2.isList hu0
  case lst.tup xs ys=>
   obtain⟨p,vs,rfl,h1,h2⟩:=rx
   obtain⟨q,us,rfl,h3,h4⟩:=ry
   cases ra
   cases rb
   obtain⟨its,w1,p1,_⟩:=I.list h1
   obtain⟨its2,w2,p2,_⟩:=I.tuple h3
   exact SeqAt.EqAt.list_tuple p1.isList p2 hu0
  case bl.tup=>obtain⟨p,vs,rfl,h1,_⟩:=ry;cases rb;cases (show v=_ from rx);cases ra;obtain⟨its,w1,p1,_⟩:=I.tuple h1;exact SeqAt.EqAt.bool_tuple _ p1 hu0
  case bl.lst=>obtain⟨p,vs,rfl,h1,_⟩:=ry;cases rb;cases (show v=_ from rx);cases ra;obtain⟨its,w1,p1,_⟩:=I.list h1;exact SeqAt.EqAt.bool_list _ p1.isList hu0
  case ty.tup=>simp[D.fit]at fx
  case ty.lst=>simp[D.fit]at fx
  case fn.tup=>simp[D.fit]at fx
  case fn.lst=>simp[D.fit]at fx
  case dic.tup=>simp[D.fit]at fx
  case dic.lst=>simp[D.fit]at fx
  case exc.tup=>simp[D.fit]at fx
  case obj.tup=>simp[D.fit]at fx
  case obj.lst=>simp[D.fit]at fx
  case tup.obj=>simp[D.fit]at fy
  case lst.obj=>simp[D.fit]at fy
  case exc.lst=>simp[D.fit]at fx
  case tup.dic=>simp[D.fit]at fy
  case lst.dic=>simp[D.fit]at fy
  case tup.exc=>simp[D.fit]at fy
  case lst.exc=>simp[D.fit]at fy
  case tup.bl=>obtain⟨p,vs,rfl,h1,_⟩:=rx;cases ra;cases (show u=_ from ry);cases rb;obtain⟨its,w1,p1,_⟩:=I.tuple h1;exact SeqAt.EqAt.tuple_bool _ p1 hu0
  case lst.bl=>obtain⟨p,vs,rfl,h1,_⟩:=rx;cases ra;cases (show u=_ from ry);cases rb;obtain⟨its,w1,p1,_⟩:=I.list h1;exact SeqAt.EqAt.list_bool _ p1.isList hu0
  case tup.ty=>simp[D.fit]at fy
  case lst.ty=>simp[D.fit]at fy
  case tup.fn=>simp[D.fit]at fy
  case lst.fn=>simp[D.fit]at fy
  case tup.int=>obtain⟨p,vs,rfl,h1,_⟩:=rx;cases ra;cases (show u=_ from ry);obtain⟨t,rfl⟩:=rb;obtain⟨its,w1,p1,_⟩:=I.tuple h1;exact SeqAt.EqAt.tuple_int _ _ p1 hu0
  case tup.non=>obtain⟨p,vs,rfl,h1,_⟩:=rx;cases ra;cases (show u=_ from ry);cases rb;obtain⟨its,w1,p1,_⟩:=I.tuple h1;exact SeqAt.EqAt.tuple_none p1 hu0
  case tup.str=>obtain⟨p,vs,rfl,h1,_⟩:=rx;cases ra;cases (show u=_ from ry);obtain⟨t,rfl⟩:=rb;obtain⟨its,w1,p1,_⟩:=I.tuple h1;exact SeqAt.EqAt.tuple_str _ _ p1 hu0
  case lst.int=>obtain⟨p,vs,rfl,h1,_⟩:=rx;cases ra;cases (show u=_ from ry);obtain⟨t,rfl⟩:=rb;obtain⟨its,w1,p1,_⟩:=I.list h1;exact SeqAt.EqAt.list_int _ _ p1.isList hu0
  case lst.non=>obtain⟨p,vs,rfl,h1,_⟩:=rx;cases ra;cases (show u=_ from ry);cases rb;obtain⟨its,w1,p1,_⟩:=I.list h1;exact SeqAt.EqAt.list_none p1.isList hu0
  case lst.str=>obtain⟨p,vs,rfl,h1,_⟩:=rx;cases ra;cases (show u=_ from ry);obtain⟨t,rfl⟩:=rb;obtain⟨its,w1,p1,_⟩:=I.list h1;exact SeqAt.EqAt.list_str _ _ p1.isList hu0
  case int.tup=>obtain⟨p,vs,rfl,h1,_⟩:=ry;cases rb;cases (show v=_ from rx);obtain⟨t,rfl⟩:=ra;obtain⟨its,w1,p1,_⟩:=I.tuple h1;exact SeqAt.EqAt.int_tuple _ _ p1 hu0
  case non.tup=>obtain⟨p,vs,rfl,h1,_⟩:=ry;cases rb;cases (show v=_ from rx);cases ra;obtain⟨its,w1,p1,_⟩:=I.tuple h1;exact SeqAt.EqAt.none_tuple p1 hu0
  case str.tup=>obtain⟨p,vs,rfl,h1,_⟩:=ry;cases rb;cases (show v=_ from rx);obtain⟨t,rfl⟩:=ra;obtain⟨its,w1,p1,_⟩:=I.tuple h1;exact SeqAt.EqAt.str_tuple _ _ p1 hu0
  case int.lst=>obtain⟨p,vs,rfl,h1,_⟩:=ry;cases rb;cases (show v=_ from rx);obtain⟨t,rfl⟩:=ra;obtain⟨its,w1,p1,_⟩:=I.list h1;exact SeqAt.EqAt.int_list _ _ p1.isList hu0
  case non.lst=>obtain⟨p,vs,rfl,h1,_⟩:=ry;cases rb;cases (show v=_ from rx);cases ra;obtain⟨its,w1,p1,_⟩:=I.list h1;exact SeqAt.EqAt.none_list p1.isList hu0
  case str.lst=>obtain⟨p,vs,rfl,h1,_⟩:=ry;cases rb;cases (show v=_ from rx);obtain⟨t,rfl⟩:=ra;obtain⟨its,w1,p1,_⟩:=I.list h1;exact SeqAt.EqAt.str_list _ _ p1.isList hu0
  all_goals
   refine ih (by omega) ?_ ?_ rx ry ra rb
   .first |rfl | (simp[D.fit]at fx;done) | (simp[D.fit];done)
   .first |rfl | (simp[D.fit]at fy;done) | (simp[D.fit];done)
def Ymq (K:Frag):R2:=λv u H Q=>∃x y,x.same y=true/\x.fit 4=true/\y.fit 4=true/\Rep K H x v/\Rep K H y u/\Q (.bl (D.eqb x y)) H
theorem Yc6 (hu:X.A.units+64<cLine):OpR X (compareOp .Eq) (Ymq X.K):=by
 intro pins s Y H v u a b Q I ra rb h
 obtain⟨x,y,hs,fx,fy,rx,ry,q⟩:=h
 have hu0:X.A.units<cLine:=by omega
 have hu1:X.A.in1.units+3<cLine:=by rw[show X.A.in1.units=X.A.units+1 from rfl];omega
 cases x<;>cases y<;>first | (simp[D.same]at hs;done) |skip
 case tup.tup xs ys=>
  obtain⟨p,vs,rfl,h1,h2⟩:=rx
  obtain⟨p',us,rfl,h3,h4⟩:=ry
  cases ra
  cases rb
  obtain⟨its,w1,p1,_⟩:=I.tuple h1
  obtain⟨its2,w2,p2,_⟩:=I.tuple h3
  have l1:=h2.length
  have l2:=h4.length
  have m1:=w1.length
  have m2:=w2.length
  simp only[D.fit]at fx fy
  refine SeqAt.RcAt.tuples (e:=eD xs ys) p1 p2 hu0 (λj j1 j2=>by
   obtain⟨z1,e1,r1⟩:=w1.at j1
   obtain⟨z2,e2,r2⟩:=w2.at j2
   obtain⟨d1,g1,k1⟩:=h2.get' e1
   obtain⟨d2,g2,k2⟩:=h4.get' e2
   have e:eD xs ys j=D.eqb d1 d2:=by unfold eD;rw[g1,g2]
   rw[e]
   exact Ydn I 3 hu1 (all_eq_true.mp fx d1 (mem_of_getElem? g1)) (all_eq_true.mp fy d2 (mem_of_getElem? g2)) k1 k2 r1 r2) _ _ _ _ ?_
  rw[show its.toArray.size=xs.length by rw[size_toArray];omega,show its2.toArray.size=ys.length by rw[size_toArray];omega,<- Xiu]
  simp only[D.eqb]at q
  exact⟨.bl _,H,I,rfl,q⟩
 case lst.lst xs ys=>
  obtain⟨p,vs,rfl,h1,h2⟩:=rx
  obtain⟨p',us,rfl,h3,h4⟩:=ry
  cases ra
  cases rb
  obtain⟨its,w1,p1,_⟩:=I.list h1
  obtain⟨its2,w2,p2,_⟩:=I.list h3
  have l1:=h2.length
  have l2:=h4.length
  have m1:=w1.length
  have m2:=w2.length
  simp only[D.fit]at fx fy
  simp only[D.eqb]at q
  rw[Xiu]at q
  by_cases hl:xs.length=ys.length
  .refine SeqAt.RcAt.lists (e:=eD xs ys) p1.isList p2.isList (by rw[size_toArray,size_toArray];omega) hu0 (λj j1 j2=>by
    obtain⟨z1,e1,r1⟩:=w1.at j1
    obtain⟨z2,e2,r2⟩:=w2.at j2
    obtain⟨d1,g1,k1⟩:=h2.get' e1
    obtain⟨d2,g2,k2⟩:=h4.get' e2
    have e:eD xs ys j=D.eqb d1 d2:=by unfold eD;rw[g1,g2]
    rw[e]
    exact Ydn I 3 hu1 (all_eq_true.mp fx d1 (mem_of_getElem? g1)) (all_eq_true.mp fy d2 (mem_of_getElem? g2)) k1 k2 r1 r2) _ _ _ _ ?_
   rw[<- hl,min_self,beq_self_eq_true,Bool.and_true]at q
   rw[show its.toArray.size=xs.length by rw[size_toArray];omega]
   exact⟨.bl _,H,I,rfl,q⟩
  .rw [show (xs.length==ys.length)=false by simpa using hl,Bool.and_false]at q
   exact SeqAt.RcAt.lists_lengths p1.isList p2.isList (by rw[size_toArray,size_toArray];simp only[bne_iff_ne,ne_eq];omega) hu0 _ _ _ _ ⟨.bl _,H,I,rfl,q⟩
theorem Yc9:OpS K (Ymq K) Ymx:=λF H x y v u P Q s rx ry w q=>by
 obtain⟨hs,fx,fy,w⟩:=w
 exact⟨x,y,hs,fx,fy,rx,ry,q _ _ F H w (Ext.refl s) rfl⟩
end
structure BltV (mg:Str->Option Value):Prop extends Blt mg where
 abs:mg "abs"=none
 any:mg "any"=none
 sum:mg "sum"=none
 sorted:mg "sorted"=none
 set:mg "set"=none
 enumerate:mg "enumerate"=none
 dict:mg "dict"=none
 str:mg "str"=none
 divmod:mg "divmod"=none
 ord:mg "ord"=none
abbrev DTb:=List (Str×DSp)
def Xzx (i n:Nat)(tb:DTb)(As:DA):DO:=λδ P=>match δ[i]? with
 |some (some (.own (.fz (.fn x))))=>∃sp,(x,sp)∈tb/\As δ λds=>ds.length=n/\sp ds P
 |_=>False
def Xtk (i n:Nat)(tb:DTb)(As:DA):DO:=λδ P=>match δ[i]? with
 |some (some (.own (.fz (.fn x))))=>∃sp,(x,sp)∈tb/\As δ λds=>ds.length=n/\sp ds λr=>r.lf=true/\P r
 |_=>False
abbrev DIO:=List OV->List D->(List OV->Prop)->Prop
def Xsv (i n:Nat)(sp:DIO)(As:DA):DS:=λDe δ=>match δ[i]? with
 |some (some (.own (.nl ts)))=>As δ λds=>ds.length+1=n/\sp ts ds λts'=>De.nx (δ.set i (some (.own (.nl ts'))))
 |_=>False
def Xjh (N:List Str)(a:Addr)(ts:List OV)(ds:List D):Dst:=some (.own (.rt a ts))::(ds.map (λd=>some (.own (.fz d)))++List.replicate (N.length-(ds.length+1)) none)
def Yk6 (i:Nat)(T:DS):DS:=λDe δ=>match δ[i]? with
 |some (some (.own (.rt a ts)))=>T {De with nx:=λδ'=>match δ'[i]? with
   |some (some (.own (.nl ts')))=>De.nx (δ'.set i (some (.own (.rt a ts'))))
   |_=>False} (δ.set i (some (.own (.nl ts))))
 |_=>False
def gB (i:Nat):D->Dst->(Dst->Prop)->Prop:=λd δ P=>P (δ.set i (some (.bw d)))
def Ydu (El:DE)(ix:List (Option Nat))(Eo:DO):DO:=λδ P=>El δ λd=>match d with
 | .lst ds=>Xix (gB 0) Eo ds (Ygz ix δ) P
 |_=>False
section
variable {K:Frag}{X:Cx}{mg:Str->Option Value}
def Xu5 (K:Frag)(mg:Str->Option Value)(x:Str):Prop:=∃f,nsIn K mainGlobals x=some (some (.ref f))/\mg x=some (.ref f)
def tFn (K:Frag)(x:Str):TE:=λY H Q=>∃f,nsIn K mainGlobals x=some (some (.ref f))/\Q (.ref f) H
theorem Ya9 {x:Str}{pos:Pos}(hg:Gl X x)(h:Xu5 X.K X.mg x)(hd:(x==("__debug__":Str))=false:=by decide):PE X (.Name x pos) (tFn X.K x):=by
 intro pins s Y H Q I ⟨f,e,q⟩
 obtain⟨f',e1,e2⟩:=h
 rw[e]at e1
 cases e1
 exact Xjo (v:=.ref f) hg e2 rfl hd pins s Y H Q I q
theorem Yaw {x:Str}(h:Xu5 K mg x):Xeh K (tFn K x) (dC (.fn x)):=λF0 H0 F H Y δ P Q e w q=>by
 obtain⟨f,e1,_⟩:=h
 exact⟨f,e1,q _ _ F H w (Ext.refl e.ext.fh) ⟨f,rfl,e1⟩⟩
def Xwv (mg:Str->Option Value)(i:Nat)(tb:List (Str×Sp))(t:TA):TE:=λY H Q=>∃x sp f,(x,sp)∈tb/\mg x=some (.ref f)/\Y[i]?=some (some (.ref f))/\t Y H λvs H1=>sp vs H1 Q E0
theorem Xx6 {y:Str}{i k:Nat}{tb:List (Str×Sp)}{e:Expr}{es:List Expr}{t:TA}{p pos:Pos}(hn:PE X (.Name y p) (Xnr i))(C:∀x sp,(x,sp)∈tb->∃ps,Cal X.prog X.w X.K X.mg X.base x k ps sp)(hr:Room k X.A)(ha:PA X (e::es) t)
  (he:starEach (e::es) X.env=(false,eval e X.env)::starEach es X.env:=by rfl) (hpl:(backTo pos (starEach es X.env)).any (·.1)=false:=by rfl):
  PE X (.Call (.Name y p) (e::es) [] pos) (Xwv X.mg i tb t):=by
 intro pins s Y H Q I ⟨x,sp,f,hm,hmg,hs,h⟩
 obtain⟨ps,⟨f',fd,F,hm',hk,hb⟩⟩:=C x sp hm
 rw[hmg]at hm'
 cases hm'
 refine wpAny_Call_Name_kw (thn (hn pins s Y H (λv H1=>v = .ref f/\H1=H) I ⟨_,hs,rfl,rfl⟩) λu s1 ⟨v,H1,I1,r1,e1,e2⟩=>?_)
 subst e1 e2
 cases r1
 refine callWith_K (h₀:=X.base) I1.ok.mod.kin hk (thn (ha pos pins s1 Y H1 _ I1 h) λus s2 ⟨vs,H2,I2,r,q⟩=>⟨I2.kIn,?_⟩) he hpl
 exact Xt7 F hr hb .nil Xx9 I2 r (by rw[append_nil];exact q)
theorem Cal.mono {P:Program}{w:World}{base:Heap}{x:Str}{j k:Nat}{ps:List Str}{sp:Sp}(C:Cal P w K mg base x j ps sp)(h:j<=k):Cal P w K mg base x k ps sp:=by
 obtain⟨f,fd,F,a,b,c⟩:=C.ex
 exact⟨f,fd,F.mono h,a,b,c⟩
def tbV (K:Frag)(n:Nat)(tb:DTb):List (Str×Sp):=tb.map λp=>(p.1,spV K n p.2)
theorem Xwr {P:Program}{w:World}{base:Heap}{n k:Nat}{tb:DTb}(h:∀p∈tb,∃ps,Cal P w K mg base p.1 k ps (spV K n p.2)):∀x sp,(x,sp)∈tbV K n tb->∃ps,Cal P w K mg base x k ps sp:=λx sp hm=>by
 obtain⟨p,hp,e⟩:=mem_map.mp hm
 cases e
 exact h p hp
theorem Yau {i n:Nat}{tb:DTb}{a:TA}{As:DA}(hN:∀p∈tb,Xu5 K mg p.1)(ha:Xk7 K a As):Xjx K (Xwv mg i (tbV K n tb) a) (Xzx i n tb As):=λF0 H0 F H Y δ P Q e w q=>by
 unfold Xzx at w
 split at w
 .rename_i x hx
  obtain⟨A,e⟩:=e
  obtain⟨v,hv,_,f,rfl,hf⟩:=e.own i _ hx
  obtain⟨sp,hm,w⟩:=w
  obtain⟨f',n1,n2⟩:=hN _ hm
  rw[hf]at n1
  cases n1
  refine⟨x,spV K n sp,f,mem_map.mpr ⟨_,hm,rfl⟩,n2,hv,?_⟩
  refine ha F0 H0 F H Y δ _ _ ⟨A,e⟩ w λds vs F1 H1 w1 x1 r1=>?_
  exact⟨by rw[<- r1.length];exact w1.1,F1,ds,P,x1.fh,r1,w1.2,λr v F' H' p x' r'=>q r v F' H' p (x1.trans x') (r'.old x1.hh)⟩
 .exact w.elim
theorem Xxl {i n:Nat}{tb:DTb}{a:TA}{As:DA}(hN:∀p∈tb,Xu5 K mg p.1)(ha:Xn8 K a As):Xjx K (Xwv mg i (tbV K n tb) a) (Xtk i n tb As):=λF0 H0 F H Y δ P Q e w q=>by
 unfold Xtk at w
 split at w
 .rename_i x hx
  obtain⟨A,e⟩:=e
  obtain⟨v,hv,_,f,rfl,hf⟩:=e.own i _ hx
  obtain⟨sp,hm,w⟩:=w
  obtain⟨f',n1,n2⟩:=hN _ hm
  rw[hf]at n1
  cases n1
  refine⟨x,spV K n sp,f,mem_map.mpr ⟨_,hm,rfl⟩,n2,hv,?_⟩
  refine ha F0 H0 F H Y δ _ _ ⟨A,e⟩ w λds vs F1 H1 w1 x1 r1=>?_
  refine⟨by rw[<- r1.length];exact w1.1,H1,ds,_,Xbi.refl _,r1,w1.2,λr v F' H' p x' r'=>?_⟩
  have s1:Xbi F1 F':=x1.fh.trans x'.ff
  have x2:=Xhe s1
  obtain⟨A,a1,a2,a3⟩:=r'
  refine q r v (Xti F1 F') H' p.2 (x1.trans ⟨x2.ff,x'.hh,x2.fh.trans x'.fh,λb o z1 z2 z3=>?_⟩) ⟨A,a1.lf s1 p.1,a2,λb hb=>⟨x1.hh.free (a3 b hb).1,x2.fh.free (a3 b hb).2⟩⟩
  exact x2.no b o z1 (x'.ff _ _ z2) z3
 .exact w.elim
def Yee (K:Frag)(n:Nat)(sp:DIO):Sp:=spL n λvs H Q=>∃F a ts vs0 B Xi0 ds P,vs=V.ref a::Xi0/\Xbi F H/\H a=some (.lst vs0)/\Xa7 K F H ts vs0 B/\(a::B).Nodup/\(∀b∈a::B,F b=none)/\Xb4 K F ds Xi0/\sp ts ds P/\
 ∀ts' F' H' vs' B',P ts'->Xbi F F'->Xbi F' H'->(∀b o,b∉a::B->H b=some o->H' b=some o)->(∀b o,F b=none->H b=some o->imm o=false->b∉a::B->F' b=none)->H' a=some (.lst vs')->Xa7 K F' H' ts' vs' B'->(a::B').Nodup->
  (∀b∈a::B',F' b=none/\(b∈a::B∨H b=none))->Q .non H'
theorem Xq0 {i n:Nat}{sp:DIO}{a:TA}{As:DA}(ha:Xk7 K a As):Xeg K (Xqd (Xww (Yee K n sp) [] E0 (Xiz (Xnr i) a))) (Xsv i n sp As):=λF0 H0 F H Y δ De En e l w=>by
 obtain⟨A,e⟩:=e
 unfold Xsv at w
 split at w
 .rename_i ts hs
  obtain⟨v,hv,p,vs,B,rfl,eA,hp,hB⟩:=e.own i _ hs
  refine⟨_,hv,?_⟩
  refine ha F0 H0 F H Y δ _ _ ⟨A,e⟩ w λds us F1 H1 w1 x1 r1=>?_
  show Yee K n sp ((V.ref p::us)++[]) H1 (λ_ H2=>En.nx Y H2) E0
  rw[append_nil]
  have e1:=e.on x1
  have hnd:=e.nod i
  rw[eA]at hnd
  have hlt:i<δ.length:=(List.getElem?_eq_some_iff.mp hs).1
  refine⟨by rw[length_cons,<- r1.length];exact w1.1,F1,p,ts,vs,B,us,ds,_,rfl,x1.fh,x1.hh _ _ hp,hB.frame x1.ff λb _ xs z=>x1.hh _ _ z,hnd,λb hb=>(e1.new i b (by rw[eA];exact hb)).1,r1,w1.2,?_⟩
  intro ts' F' H' vs' B' pt sF sH keep nofz hp' hB' nd' nw'
  refine l.nx F' H' Y _ ⟨λj=>if j=i then p::B' else A j,?_⟩ pt
  refine⟨by simp[e.len],⟨e1.ext.ff.trans sF,λb o h=>?_,sH,λb o h1 h2 h3=>?_⟩,λj t hj=>?_,λj d hj=>?_,λj=>?_,λj k b hjk h1 h2=>?_,λj b hb=>?_⟩
  .exact keep b o (λz=>by rw[(e1.new i b (by rw[eA];exact z)).2.1]at h;cases h) (e1.ext.hh _ _ h)
  .exact nofz b o (e1.ext.no b o h1 h2 h3) (e1.ext.hh _ _ h2) h3 (λz=>by rw[(e1.new i b (by rw[eA];exact z)).2.1]at h2;cases h2)
  .try dsimp only
   by_cases z:j=i
   .subst z
    rw[if_pos rfl]
    rw[getElem?_set_self hlt]at hj
    cases hj
    exact⟨_,hv,p,vs',B',rfl,rfl,hp',hB'⟩
   .rw [if_neg z]
    rw[getElem?_set_ne (Ne.symm z)]at hj
    obtain⟨u,h1,h2⟩:=e1.own j t hj
    exact⟨u,h1,h2.frame sF λb hb xs q=>keep b _ (λy=>e.dis j i b z hb (by rw[eA];exact y)) q⟩
  .by_cases z:j=i
   .subst z
    rw[getElem?_set_self hlt]at hj
    cases hj
   .rw [getElem?_set_ne (Ne.symm z)]at hj
    exact e1.bw j d hj
  .try dsimp only
   split
   .exact nd'
   .exact e.nod j
  .try dsimp only at h1 h2
   have key:∀k,k≠i->b∈p::B'->b∈A k->False:=λk hk z1 z2=>by
    rcases (nw' b z1).2 with y |y
    .exact e.dis k i b hk z2 (by rw[eA];exact y)
    .obtain ⟨_,_,xs,q,_⟩:=e1.new k b z2
     rw[y]at q;cases q
   split at h1
   .split at h2
    .omega
    .rename_i z1 z2
     exact key k z2 h1 h2
   .split at h2
    .rename_i z1 z2
     exact key j z1 h2 h1
    .exact e.dis j k b hjk h1 h2
  .try dsimp only at hb
   split at hb
   .have hh:H0 b=none:=by
     rcases (nw' b hb).2 with y |y
     .exact (e1.new i b (by rw[eA];exact y)).2.1
     .exact e1.ext.hh.free y
    refine⟨(nw' b hb).1,hh,?_⟩
    rcases mem_cons.mp hb with y |y
    .rw [y];exact⟨_,hp',rfl⟩
    .exact hB'.isl b y
   .rename_i z
    obtain⟨h1,h2,xs,h3,himm⟩:=e1.new j b hb
    have hni:b∉p::B:=λy=>e.dis j i b z hb (by rw[eA];exact y)
    exact⟨nofz b _ h1 h3 himm hni,h2,xs,keep b _ hni h3,himm⟩
 .exact w.elim
theorem CalIO.of {P:Program}{w:World}{base:Heap}{x:Str}{st:Stmt}{f:Addr}{fd:FuncData}{N ps:List Str}{k n:Nat}{sp:DIO}(Df:DefAt K mg x st f fd)(S:FnScope N ps (Xac st))
  (hb:∀(kV doc pm:Value) (an:Option Addr) (cdv ct:Value) (us:List Value),us.length=ps.length->bindArgs (fnOf x x (Xar st) (Xan st) (Xac st) .none kV doc pm an cdv ct) ⟨us,[]⟩=pure (ps.zip us)) (hn:n=ps.length)
  (hbody:∀(cdv:Value) (A:Around) (outer:List Env) (s:Shared) (H:Hp) (E:XK),Room k (A.deeper (envOfC x (Xac st) s.heap.objs.size f cdv))->
   ∃t T,PSs (Xn6 CX0 P w K mg base N x (Xac st) f cdv A outer s H E).nox (Xan st) t/\Xeg K t T/\∀(a:Addr) ts ds Pr,sp ts ds Pr->T {nx:=λδ=>∃ts',δ[0]?=some (some (.own (.rt a ts')))/\Pr ts',rt:=λ_=>False} (Xjh N a ts ds)):Cal P w K mg base x (k+1) ps (Yee K n sp):=
 Cal.of Df S hb (λvs H Q E h=>by rw[<- hn];exact h.1) λcdv A outer s H vs Q E hr h=>by
  obtain⟨_,F,a,ts,vs0,B,Xi0,ds,Pr,rfl,hs,ha,hB,hnd,hnf,hr',hsp,hq⟩:=h
  obtain⟨t,T,h1,h2,h3⟩:=hbody cdv A outer s H E hr
  have hl:=hr'.length
  have er : ER K F (λb=>if b∈a::B then none else H b) F H (Xe4 N (V.ref a::Xi0)) (Xjh N a ts ds) (λj=>if j=0 then a::B else []):=by
   refine⟨by simp[Xe4,Xjh,hl],⟨Xbi.refl _,λb o z=>?_,hs,λ_ _ z _ _=>z⟩,λi t hi=>?_,λi d hi=>?_,λj=>?_,λj k b hjk y1 y2=>?_,λj b hb=>?_⟩
   .try dsimp only at z
    split at z
    .cases z
    .exact z
   .unfold Xjh at hi
    cases i with
    |zero=>
     simp at hi
     subst hi
     exact⟨.ref a,rfl,vs0,B,rfl,rfl,ha,hB⟩
    |succ i=>
     rw[getElem?_cons_succ]at hi
     try dsimp only
     rw[if_neg (by omega)]
     by_cases z:i<ds.length
     .rw [getElem?_append_left (by simpa using z),getElem?_map,getElem?_eq_getElem z]at hi
      simp at hi
      subst hi
      obtain⟨v,g1,g2⟩:=hr'.get (getElem?_eq_getElem z)
      refine⟨v,?_,rfl,g2⟩
      unfold Xe4
      rw[map_cons,cons_append,getElem?_cons_succ,getElem?_append_left (by simp;omega),getElem?_map,g1]
      rfl
     .rw [getElem?_append_right (by simpa using z)]at hi
      have:=mem_of_getElem? hi
      rw[mem_replicate]at this
      cases this.2
   .unfold Xjh at hi
    cases i with
    |zero=>simp at hi
    |succ i=>
     rw[getElem?_cons_succ]at hi
     by_cases z:i<ds.length
     .rw [getElem?_append_left (by simpa using z),getElem?_map,getElem?_eq_getElem z]at hi
      simp at hi
     .rw [getElem?_append_right (by simpa using z)]at hi
      have:=mem_of_getElem? hi
      rw[mem_replicate]at this
      cases this.2
   .try dsimp only
    split
    .exact hnd
    .exact nodup_nil
   .try dsimp only at y1 y2
    split at y1
    .split at y2
     .omega
     .cases y2
    .cases y1
   .try dsimp only at hb
    split at hb
    .refine ⟨hnf b hb,if_pos hb,?_⟩
     rcases mem_cons.mp hb with y |y
     .rw [y];exact⟨_,ha,rfl⟩
     .exact hB.isl b y
    .cases hb
  refine⟨t,h1,h2 F _ F H (Xe4 N (V.ref a::Xi0)) (Xjh N a ts ds) {nx:=λδ=>∃ts',δ[0]?=some (some (.own (.rt a ts')))/\Pr ts',rt:=λ_=>False} _ ⟨_,er⟩ ⟨λF' H' Y δ e p=>?_,λ_ _ _ _ _ z=>z.elim,λ_ _ _ _ _ z=>z.elim,λ_ _ _ _ _ _ z=>z.elim⟩ (h3 a ts ds Pr hsp)⟩
  obtain⟨A',e⟩:=e
  obtain⟨ts',h0,hp⟩:=p
  obtain⟨v,hv,vs',B',rfl,eA,g1,g2⟩:=e.own 0 _ h0
  have hn':=e.nod 0
  rw[eA]at hn'
  refine hq ts' F' H' vs' B' hp e.ext.ff e.ext.fh (λb o y z=>?_) (λb o y1 y2 y3 y4=>?_) g1 g2 hn' (λb hb=>?_)
  .exact e.ext.hh b o (by rw[if_neg y];exact z)
  .exact e.ext.no b o y1 (by rw[if_neg y4];exact y2) y3
  .obtain ⟨z1,z2,_⟩:=e.new 0 b (by rw[eA];exact hb)
   refine⟨z1,?_⟩
   by_cases q:b∈a::B
   .exact .inl q
   .rw [if_neg q]at z2;exact .inr z2
def Yne (t:TS):Prop:=∀E Y H,t {E with nx:=λY' H'=>Y'=Y->E.nx Y' H'} Y H->t E Y H
theorem Yi7 {E:Ends}{Y:St}:(λH'=>Y=Y->E.nx Y H')=E.nx Y:=funext λH'=>propext ⟨λz=>z rfl,λz _=>z⟩
theorem Xyt {te to ti:TE}{r:Yhe}:Yne (Yam te (Yky to ti r)):=λE Y H h=>by
 have h':te Y H λx H1=>to Y H1 λo H2=>ti Y H2 λi H3=>r o i x H3 (λH'=>Y=Y->E.nx Y H'):=h
 rw[Yi7]at h'
 exact h'
theorem Xf1.untag {F0 H0 F H:Hp}{Y:St}{δ:Dst}{i:Nat}{a:Addr}{ts:List OV}(e:Xf1 K F0 H0 F H Y δ)(h:δ[i]?=some (some (.own (.rt a ts)))):Y[i]?=some (some (.ref a))/\Xf1 K F0 H0 F H Y (δ.set i (some (.own (.nl ts)))):=by
 obtain⟨A,e⟩:=e
 obtain⟨v,hv,vs,B,rfl,eA,h1,h2⟩:=e.own i _ h
 have hlt:i<δ.length:=(List.getElem?_eq_some_iff.mp h).1
 refine⟨hv,A,by simp[e.len],e.ext,λj t hj=>?_,λj d hj=>?_,e.nod,e.dis,e.new⟩
 .by_cases z:j=i
  .subst z
   rw[getElem?_set_self hlt]at hj
   cases hj
   exact⟨_,hv,a,vs,B,rfl,eA,h1,h2⟩
  .rw [getElem?_set_ne (Ne.symm z)]at hj
   exact e.own j t hj
 .by_cases z:j=i
  .subst z
   rw[getElem?_set_self hlt]at hj
   cases hj
  .rw [getElem?_set_ne (Ne.symm z)]at hj
   exact e.bw j d hj
theorem Xf1.retag {F0 H0 F H:Hp}{Y:St}{δ:Dst}{i:Nat}{a:Addr}{ts:List OV}(e:Xf1 K F0 H0 F H Y δ)(h:δ[i]?=some (some (.own (.nl ts))))(hσ:Y[i]?=some (some (.ref a))):Xf1 K F0 H0 F H Y (δ.set i (some (.own (.rt a ts)))):=by
 obtain⟨A,e⟩:=e
 obtain⟨v,hv,a',vs,B,rfl,eA,h1,h2⟩:=e.own i _ h
 rw[hσ]at hv
 cases hv
 have hlt:i<δ.length:=(List.getElem?_eq_some_iff.mp h).1
 refine⟨A,by simp[e.len],e.ext,λj t hj=>?_,λj d hj=>?_,e.nod,e.dis,e.new⟩
 .by_cases z:j=i
  .subst z
   rw[getElem?_set_self hlt]at hj
   cases hj
   exact⟨_,hσ,vs,B,rfl,eA,h1,h2⟩
  .rw [getElem?_set_ne (Ne.symm z)]at hj
   exact e.own j t hj
 .by_cases z:j=i
  .subst z
   rw[getElem?_set_self hlt]at hj
   cases hj
  .rw [getElem?_set_ne (Ne.symm z)]at hj
   exact e.bw j d hj
theorem Ycr {i:Nat}{t:TS}{T:DS}(hl:Yne t)(h:Xeg K t T):Xeg K t (Yk6 i T):=λF0 H0 F H Y δ De E e l w=>by
 unfold Yk6 at w
 split at w
 .rename_i a ts hs
  obtain⟨hσ,e'⟩:=e.untag hs
  have lk:Lk K F0 H0 {De with nx:=λδ'=>match δ'[i]? with |some (some (.own (.nl ts')))=>De.nx (δ'.set i (some (.own (.rt a ts')))) |_=>False} {E with nx:=λY' H'=>Y'=Y->E.nx Y' H'}:=by
   refine⟨λF1 H1 Y1 δ1 e1 p hq=>?_,l.bk,l.ct,l.rt⟩
   subst hq
   dsimp only at p
   split at p
   .rename_i ts' hs'
    exact l.nx F1 H1 _ _ (e1.retag hs' hσ) p
   .exact p.elim
  exact hl E Y H (h F0 H0 F H Y _ _ _ e' lk w)
 .exact w.elim
end
section
variable {K:Frag}{X:Cx}
theorem ER.putBw {F0 H0 F H:Hp}{Y:St}{δ:Dst}{A:Nat->List Addr}(e:ER K F0 H0 F H Y δ A)(i:Nat){d:D}{v:V}(h:Rep K H0 d v):ER K F0 H0 F H (Y.set i (some v)) (δ.set i (some (.bw d))) A:=by
 refine⟨by simp[e.len],e.ext,λj t hj=>?_,λj d' hj=>?_,e.nod,e.dis,e.new⟩
 .by_cases z:j=i
  .subst z
   have hl0:j<δ.length:=by
    have:=(List.getElem?_eq_some_iff.mp hj).1
    rwa[length_set]at this
   rw[getElem?_set_self hl0]at hj
   cases hj
  .rw [getElem?_set_ne (Ne.symm z)]at hj ⊢
   exact e.own j t hj
 .by_cases z:j=i
  .subst z
   have hl0:j<δ.length:=by
    have:=(List.getElem?_eq_some_iff.mp hj).1
    rwa[length_set]at this
   rw[getElem?_set_self hl0]at hj
   cases hj
   exact⟨v,getElem?_set_self (by rw[e.len];exact hl0),h⟩
  .rw [getElem?_set_ne (Ne.symm z)]at hj ⊢
   exact e.bw j d' hj
theorem Yat {te tl:TE}{El:DE}{Eo:DO}{ix:List (Option Nat)}(hl:Xgi K tl El)(he:Xjx K te Eo):Xjx K (Xqe (Ygk K tl) ix (Xtg 0) te) (Ydu El ix Eo):=λF0 H0 F H Y δ P Q e w q=>
 hl F0 H0 F H Y δ _ _ e w λd v F1 H1 p x1 r1=>by
  try dsimp only at p
  split at p
  case h_2=>exact p.elim
  rename_i ds
  obtain⟨aL,vsL,rfl,hq1,hq2⟩:=r1
  have hql:=hq2.length
  refine⟨aL,rfl,⟨vsL,hq1⟩,?_⟩
  intro L hL
  obtain⟨A,e⟩:=e.on x1
  obtain⟨W,w0,ws,wd⟩:=p
  have f1:Xbi F1 H1:=x1.fh
  refine⟨λi m Y ys H=>m=ds.length-i/\i<=ds.length/\∃F δ ts B,ER K F1 H1 F H Y δ (λ_=>[])/\W i δ ts/\F L=none/\H L=some (.lst ys)/\Xa7 K F H ts ys B/\(L::B).Nodup/\∀b∈B,H1 b=none/\F b=none,
   ⟨ds.length,by simp,zero_le _,F1,_,[],[],e.blk ix (Xbi.new hL),w0,f1.free hL,Xay,⟨rfl,rfl⟩,by simp,λ_ h=>by cases h⟩,?_⟩
  rintro i m Y2 ys H2 ⟨rfl,hil,F2,δ2,ts,B,e2,w2,l1,l2,hr,nd,nw⟩
  have hqn:=e2.ext.hh.seq hq1
  by_cases hlt:i<ds.length
  .obtain ⟨d0,hd0⟩:∃d,ds[i]?=some d:=⟨_,getElem?_eq_getElem hlt⟩
   have hl:=hr.length
   refine .inr ⟨Xwx (by have:=(ws i d0 δ2 ts hd0 w2).1;omega),⟨vsL,vsL[i]'(by omega),hqn,getElem?_eq_getElem (by omega)⟩,λx H3 y=>?_⟩
   obtain⟨rfl,y⟩:=y
   obtain⟨d,hd,r3⟩:=hq2.get' (y vsL hqn)
   have x3:=Ext.refl e2.ext.fh
   have F3e:F2=F2:=rfl
   have w4:=(ws i d δ2 ts hd w2).2
   unfold gB at w4
   have e4':=e2.putBw 0 r3
   refine he F1 H1 F2 _ _ _ _ _ ⟨_,e4'⟩ w4 λr v F5 H5 p5 x5 n5=>?_
   have x25:=x3.trans x5
   have l5:=x25.hh _ _ l2
   have l5f:=x25.no L _ l1 l2 rfl
   refine⟨l5,ds.length-(i+1),by omega,rfl,hlt,F5,δ2.set 0 (some (.bw d)),ts++[r],?_⟩
   obtain⟨C,c1,c2,c3⟩:=n5
   obtain⟨n1,n2⟩:=nodup_cons.mp nd
   have hLC:L∉C:=λz=>by
    have q:=(c3 L z).1
    rw[x3.hh _ _ l2]at q;cases q
   have hBC:∀b,b∈B->b∉C:=λb hb z=>by
    obtain⟨xs,q,himm⟩:=hr.isl b hb
    have:=(c3 b z).1
    rw[x3.hh _ _ q]at this;cases this
   have e5:=e4'.on x5
   refine⟨B++C,⟨e5.len,⟨e5.ext.ff,λb o h=>?_,λb o h=>?_,e5.ext.no⟩,λj t hj=>?_,e5.bw,e5.nod,e5.dis,λ_ _ h=>by cases h⟩,p5,l5f,Xay,?_,?_,λb hb=>?_⟩
   .exact Xav (λz=>by rw[z,hL]at h;cases h) (e5.ext.hh _ _ h)
   .exact Xav (λz=>by rw[z,l5f]at h;cases h) (e5.ext.fh _ _ h)
   .obtain ⟨u,h1,h2⟩:=e5.own j t hj
    exact⟨u,h1,h2.frame (Xbi.refl _) λ_ z=>by cases z⟩
   .exact Xa7.append (hr.frame x25.ff λb hb xs z=>Xav (λq=>n1 (by rw[<- q];exact hb)) (x25.hh _ _ z)) (Xa7.one (c1.frame (Xbi.refl _) λb hb xs z=>Xav (λq=>hLC (by rw[<- q];exact hb)) z))
   .refine nodup_cons.mpr ⟨λz=>?_,nodup_append.mpr ⟨n2,c2,λx hx y hy z=>by subst z;exact hBC x hx hy⟩⟩
    rcases mem_append.mp z with z |z
    .exact n1 z
    .exact hLC z
   .rcases mem_append.mp hb with z |z
    .obtain ⟨xs,qq,himm⟩:=hr.isl b z
     exact⟨(nw b z).1,x25.no b _ (nw b z).2 qq himm⟩
    .exact ⟨(e2.ext.hh.trans x3.hh).free (c3 b z).1,(c3 b z).2⟩
  .have hi':i=ds.length:=by omega
   subst hi'
   refine .inl ⟨⟨vsL,hqn,by omega⟩,q _ _ F2 H2 (wd _ _ w2) (x1.trans e2.ext) ⟨L::B,⟨L,ys,B,rfl,rfl,l2,hr⟩,nd,λb hb=>?_⟩⟩
   rcases mem_cons.mp hb with rfl |z
   .exact ⟨x1.hh.free hL,l1⟩
   .exact ⟨x1.hh.free (nw b z).1,(nw b z).2⟩
def Yim (K:Frag):List V->Hp->VK->Prop:=λxs H Q=>∃(l:Addr) (bs:List Bool),xs=[.ref l]/\SqL K H l (bs.map V.bl)/\Q (.bl (bs.all id)) H
theorem Xsg:∀{bs:List Bool} {us:List Value},Xb5 (bs.map V.bl) us->∀{i:Nat} {v:Value},us[i]?=some v->∃b,bs[i]?=some b/\v = .bool b
 | [],_,.nil,i,v,e=>by simp at e
 |b::bs,u::us,.cons r t,0,v,e=>by
  simp at e
  subst e
  exact⟨b,rfl,r⟩
 |b::bs,u::us,.cons r t,i+1,v,e=>by
  obtain⟨b',h1,h2⟩:=Xsg (bs:=bs) t (i:=i) (by simpa using e)
  exact⟨b',by simpa using h1,h2⟩
theorem Xik (hc:X.calm=true):Xhv X (.builtin "all") (Yim X.K):=by
 intro pins s Y H xs us Q I r h
 obtain⟨l,bs,rfl,hq,q⟩:=h
 obtain⟨u,rfl,ru⟩:=Xiy r
 cases ru
 obtain⟨its,rv,pl,hz⟩:=I.list hq
 have hl:=pl.isList
 have hn:=rv.length
 rw[length_map]at hn
 have hlt:l<s.heap.objs.size:=by obtain⟨_,e,_⟩:=hl;exact lt_size e
 refine call_all_walk (wpAny_pyIter_list hl ?_)
 refine⟨s.heap.objs.size,[s.heap.objs.size,l],[s.heap.objs.size],its.toArray.size,_,_,λi=>(bs[i]?).getD true,rfl,Walks.list (A:=X.A.in1) (I.ok.hd hc) _ l (ne_of_lt hlt) its.toArray,
  ⟨⟨_,get?_push_size _ rfl,rfl,rfl⟩,hl.push _⟩,λi v s' Q' E' hP hQ=>?_,λh' tk hk=>?_⟩
 .obtain ⟨b,e,rfl⟩:=Xsg rv (i:=i) (v:=v) (by simpa using hP)
  simp only[e,Option.getD_some]at hQ
  exact wpAny_truthy_bool hQ
 .have e:((List.range its.toArray.size).all λi=>(bs[i]?).getD true)=bs.all id:=by
   rw[size_toArray,<- hn];exact LSm.range_all bs
  rw[e]
  exact⟨.bl _,H,I.kept (t':=tk) (LSm.kept_iter hk),rfl,q⟩
theorem Xoq {F:Hp}:∀{bs:List Bool} {vs:List V},Xb4 K F (bs.map D.bl) vs->vs=bs.map V.bl
 | [],vs,h=>h
 |b::bs,vs,h=>by
  obtain⟨v,r,rfl,h1,h2⟩:=h
  rw[show v=V.bl b from h1,Xoq h2];rfl
theorem Xsf:CbS K (Yim K) Yl0:=λF H ds vs P Q s rs w q=>by
 unfold Yl0 at w
 split at w
 .obtain ⟨bs,rfl,w⟩:=w
  obtain⟨v,rfl,p,us,rfl,h1,h2⟩:=Xjm rs
  have e:=Xoq h2
  subst e
  exact⟨p,bs,rfl,h1,q _ _ F H w (Ext.refl s) rfl⟩
 .exact w.elim
theorem Yjj {n:Nat}{k:Int}{j:Nat}(h:ixN n k=some j):j<n:=by
 unfold ixN at h
 split at h
 .split at h
  .cases h;omega
  .cases h
 .split at h
  .cases h;omega
  .cases h
theorem Yem {i:Nat}{te tk tm:TE}{E Ek Em:DE}(h:Xeh K te E)(hk:Xgi K tk Ek)(hm:Xgi K tm Em):Xeg K (Yam te (Yky (tOp (Ykv K) (Xnr i) tk) tm Ya0)) (Yh6 i Ek Em E):=λF0 H0 F H Y δ De En e l w=>by
 refine h F0 H0 F H Y δ _ _ e w λd u F1 H1 p x1 rd=>?_
 obtain⟨A,e⟩:=e
 split at p
 .rename_i ts hs
  have e1:=e.on x1
  obtain⟨v,hv,a,vs,B,rfl,eA,ha,hB⟩:=e1.own i _ hs
  refine⟨_,hv,?_⟩
  refine hk F0 H0 F1 H1 Y δ _ _ ⟨A,e1⟩ p λk kv F2 H2 p2 x2 r2=>?_
  try dsimp only at p2
  split at p2
  .rename_i k
   obtain⟨j,us,hj,hu,p2⟩:=p2
   have e2:=e1.on x2
   have ha2:=x2.hh _ _ ha
   have hB2:Xa7 K F2 H2 ts vs B:=hB.frame x2.ff λb _ xs z=>x2.hh _ _ z
   have hlv:=hB2.length
   obtain⟨v0,A1,B0,A2,f1,rfl,f3,f4⟩:=hB2.focus hu
   obtain⟨c,ws,C0,rfl,rfl,hc,hws⟩:=f3
   have at1:atI vs k=some (.ref c):=by
    unfold atI
    rw[<- hlv,hj];exact f1
   refine⟨a,vs,k,.ref c,rfl,r2,SqL.of ha2,at1,?_⟩
   refine hm F0 H0 F2 H2 Y δ _ _ ⟨A,e2⟩ p2 λm mv F3 H3 p3 x3 r3=>?_
   try dsimp only at p3
   split at p3
   .rename_i m
    obtain⟨q,hq,p3⟩:=p3
    have e3:=e2.on x3
    have hlw:=hws.length
    refine⟨c,ws,m,q,rfl,r3,x3.hh _ _ hc,by rw[<- hlw];exact hq,?_⟩
    have hql:=Yjj hq
    have hws3:Xa7 K F3 H3 us ws C0:=hws.frame x3.ff λb _ xs z=>x3.hh _ _ z
    obtain⟨w0,C1,D0,C2,g1,rfl,g3,g4⟩:=hws3.focus (getElem?_eq_getElem hql)
    have hnd:=e.nod i
    rw[eA]at hnd
    have hA:A i=a::(A1++(c::(C1++(D0++C2))++A2)):=eA
    obtain⟨n1,n2⟩:=nodup_cons.mp hnd
    obtain⟨m1,m2,m3⟩:=nodup_append.mp n2
    obtain⟨q1,q2,q3⟩:=nodup_append.mp m2
    obtain⟨s1,s2⟩:=nodup_cons.mp q1
    have hac:a≠c:=λz=>n1 (by rw[z];simp)
    have off:∀b∈A1++A2,b≠c:=λb hb z=>by
     subst z
     rcases mem_append.mp hb with y |y
     .exact m3 b y b (by simp) rfl
     .exact q3 b (by simp) b y rfl
    have offC:∀b∈C1++C2,b≠c:=λb hb z=>by
     subst z
     apply s1
     rcases mem_append.mp hb with y |y<;>simp[y]
    have rd3:Rep K F3 d u:=rd.mono (x2.ff.trans x3.ff)
    have g4':=g4 F3 (upd H3 c (.lst (ws.set q u))) (.fz d) u [] (Xbi.refl _) (λb hb xs z=>Xav (offC b hb) z) ⟨rfl,rd3⟩
    have f4':=f4 F3 (upd H3 c (.lst (ws.set q u))) (.nl (us.set q (.fz d))) (.ref c) (c::(C1++([]++C2))) x3.ff (λb hb xs z=>Xav (off b hb) (x3.hh _ _ z)) ⟨c,ws.set q u,_,rfl,rfl,Xay,g4'⟩
    rw[Xgw f1]at f4'
    have sub:(a::(A1++(c::(C1++([]++C2))++A2))).Sublist (A i):=by
     rw[hA]
     exact List.Sublist.cons₂ _ (List.Sublist.append (List.Sublist.refl _) (List.Sublist.append (List.Sublist.cons₂ _ (List.Sublist.append (List.Sublist.refl _) (List.Sublist.append (List.nil_sublist _) (List.Sublist.refl _)))) (List.Sublist.refl _)))
    refine l.nx F3 _ Y _ (e3.change i hv (t':=.nl (ts.set j (.nl (us.set q (.fz d))))) (B:=a::(A1++(c::(C1++([]++C2))++A2))) ⟨a,vs,_,rfl,rfl,Xav hac (x3.hh _ _ ha2),f4'⟩ ?_ ?_ ?_ ?_) p3
    .exact (e.nod i).sublist sub
    .intro b hb
     exact⟨(e3.new i b (sub.subset hb)).1,(e3.new i b (sub.subset hb)).2.1⟩
    .intro j' hj' b hb z
     exact e.dis j' i b hj' z (sub.subset hb)
    .intro b o hb q'
     exact Xav (λz=>hb (by rw[hA,z];simp)) q'
   .exact p3.elim
  .exact p2.elim
 .exact p.elim
def Yic (K:Frag):V->Int->Hp->VK->Prop:=λx c H Q=>∃a xs,x = .ref a/\SqL K H a xs/\0<c/\∀p H',H p=none->Xbi H H'->H' p=some (.lst (Xo4 xs c))->Q (.ref p) H'
def Yhn (r:V->Int->Hp->VK->Prop)(te tc:TE):TE:=λY H Q=>te Y H λx H1=>tc Y H1 λc H2=>∃i,c = .int i/\r x i H2 Q
theorem Xl6 {xs:List V}{us:List Value}(h:Xb5 xs us):∀(js:List Nat),Xb5 (js.filterMap (xs[·]?)) (js.filterMap (us.toArray[·]?))
 | []=>.nil
 |j :: js=>by
  have ih:=Xl6 h js
  by_cases hj:j<xs.length
  .have hj':j<us.length:=by rw[<- h.length];exact hj
   obtain⟨u,hu,ru⟩:=h.get (i:=j) (x:=xs[j]) (by simp[hj])
   have e1:xs[j]?=some xs[j]:=by simp[hj]
   have e2:us.toArray[j]?=some u:=by simpa using hu
   rw[filterMap_cons_some e1,filterMap_cons_some e2]
   exact .cons ru ih
  .have hj':¬ j<us.length:=by rw[<- h.length];exact hj
   have e1:xs[j]?=none:=by simp;omega
   have e2:us.toArray[j]?=none:=by simp;omega
   rw[List.filterMap_cons_none e1,List.filterMap_cons_none e2]
   exact ih
theorem Xx3 {e c:Expr}{te tc:TE}{p2 pos:Pos}(he:PE X e te)(hc:PE X c tc):PE X (.Subscript e (.Slice none none (some c) p2) pos) (Yhn (Yic X.K) te tc):=by
 intro pins s Y H Q I h
 refine Subscript_ (thn (he pins s Y H _ I h) λv s1 ⟨x,H1,I1,r1,q1⟩=>?_)
 refine wpAny_Slice ?_
 rw[evalPart_none]
 refine wpAny_pure ?_
 rw[evalPart_some]
 refine wpAny_pure ?_
 refine thn (hc pins s1 Y H1 _ I1 q1) λvc s3 ⟨y,H3,I3,rc,i,ey,q3⟩=>?_
 subst ey
 obtain⟨a,xs,rfl,hq,hi,q⟩:=q3
 obtain⟨tk,rfl⟩:=rc
 cases r1
 have I4:Inv X pins Y H3 {s3 with heap:=s3.heap.push {cls:=.type "slice",data:=.fields #[.none,.none,.int i tk]}}:=I3.kept (t':=s3.toks) λb ob q=>get?_push_of_some _ q
 obtain⟨its,rv,pl,hz⟩:=I4.list hq
 have hn:=rv.length
 have hbd:sliceBounds none none (some i) its.toArray.size=(0,(xs.length:Int),i):=by
  unfold sliceBounds
  simp[hi,hn]
 have hpk:slicePick its.toArray none none (some i)=((sliceRange 0 xs.length i).filterMap (its.toArray[·]?)).toArray:=by
  unfold slicePick
  rw[hbd]
 show wpAny (model X.prog X.w) X.A (subscriptTail e (.Slice none none (some c) p2) (.ref a) (.ref s3.heap.objs.size)) (EP X pins Y Q) X.xe {s3 with heap:=s3.heap.push {cls:=.type "slice",data:=.fields #[.none,.none,.int i tk]}}
 refine tail_any (T := "list") (ops:=[.ref a,.ref s3.heap.objs.size]) pl.isList.typeIs slot_list_getitem.lookup ?_ (by with_unfolding_all rfl)
 refine wpAny_getItem_list_slice pl.isList (Heap.IsSliceOf.new ..) .none .none (.int i tk) (by intro z;injection z with z;omega) ?_ (by rw[size_toArray]<;>omega)
 rw[hpk]
 have hle:(Xo4 xs i).length<=xs.length:=by
  have h1:=slicePick_size_le its.toArray none none (some i)
  rw[hpk,size_toArray,size_toArray]at h1
  have h2:=(Xl6 rv (sliceRange 0 xs.length i)).length
  show ((sliceRange 0 xs.length i).filterMap (xs[·]?)).length<=_
  omega
 have hf:=I4.hok.fresh (Nat.le_refl _)
 refine⟨.ref _,_,I4.laid (t':=s3.toks) (o:=.lst (Xo4 xs i)) (λb ob q=>get?_push_of_some _ q) (Nat.le_refl _) ?_,rfl,q _ _ hf (Xbi.new hf) Xay⟩
 exact⟨le_trans hle hz,_,0,Xl6 rv (sliceRange 0 xs.length i),get?_push_size _ rfl⟩
theorem Xb4.pick {F:Hp}{ds:List D}{vs:List V}(h:Xb4 K F ds vs):∀(js:List Nat),Xb4 K F (js.filterMap (ds[·]?)) (js.filterMap (vs[·]?))
 | []=>rfl
 |j :: js=>by
  have ih:=Xb4.pick h js
  have hl:=h.length
  by_cases hj:j<ds.length
  .obtain ⟨v,hv,rv⟩:=h.get (i:=j) (d:=ds[j]) (by simp[hj])
   have e1:ds[j]?=some ds[j]:=by simp[hj]
   rw[filterMap_cons_some e1,filterMap_cons_some hv]
   exact⟨v,_,rfl,rv,ih⟩
  .have e1:ds[j]?=none:=by simp;omega
   have e2:vs[j]?=none:=by simp;omega
   rw[List.filterMap_cons_none e1,List.filterMap_cons_none e2]
   exact ih
theorem Xb4.step {F:Hp}{ds:List D}{vs:List V}(h:Xb4 K F ds vs)(c:Int):Xb4 K F (Xo4 ds c) (Xo4 vs c):=by
 unfold Xo4
 rw[h.length]
 exact h.pick _
theorem Xxi {ta tc:TE}{Ea Ec:DE}(ha:Xeh K ta Ea)(hc:Xgi K tc Ec):Xjx K (Yhn (Yic K) ta tc) (Yj2 Ea Ec):=λF0 H0 F H Y δ P Q e w q=>
 ha F0 H0 F H Y δ _ _ e w λx v F1 H1 w1 x1 r1=>hc F0 H0 F1 H1 Y δ _ _ (e.on x1) w1 λc u F2 H2 w2 x2 r2=>by
  have x12:=x1.trans x2
  try dsimp only at w2
  split at w2
  .obtain ⟨c0,w2⟩:=w2
   obtain⟨p,vs,rfl,h1,h2⟩:=r1.mono x2.ff
   exact⟨_,r2,p,vs,rfl,x2.fh.seq h1,c0,λl H' l0 sm l1=>q _ _ F2 H' w2 (x12.trans (Ext.grow x2.fh sm)) (Xno.list (x12.hh.free l0) (x2.fh.free l0) l1 (h2.step _))⟩
  .exact w2.elim
structure DefAtD (K:Frag) (mg:Str->Option Value) (x:Str) (st:Stmt) (f:Addr) (fd:FuncData) (T:Addr) (items:Array Value):Prop where
 ex:∃(oc:Value) (od:Option Addr) (kV doc pm:Value) (an:Option Addr) (cdv ct:Value) (osl:Array (Option Value)),
  fd=fnOf x x (Xar st) (Xan st) (Xac st) (.ref T) kV doc pm an cdv ct/\K.lookup f=some ⟨oc,od,.func fd,osl⟩/\codeIn K cdv x=true
 tup:∃o n,K.lookup T=some o/\o.data = .seq items n
 kp:keepIn K (.ref f)=true
 here:mg x=some (.ref f)
structure CalD (P:Program) (w:World) (K:Frag) (mg:Str->Option Value) (base:Heap) (x:Str) (k:Nat) (ps:List Str) (sp:Sp) (dvs:List V):Prop where
 ex:∃f fd ds,FnOk P w K mg base CX0 k f fd ps sp/\mg x=some (.ref f)/\keepIn K (.ref f)=true/\Xjv K fd ps []/\Xjv K fd ps ds/\Xb5 dvs ds
theorem CalD.cal {P:Program}{w:World}{mg:Str->Option Value}{base:Heap}{x:Str}{k:Nat}{ps:List Str}{sp:Sp}{dvs:List V}(C:CalD P w K mg base x k ps sp dvs):Cal P w K mg base x k ps sp:=by
 obtain⟨f,fd,ds,a,b,c,d,_⟩:=C.ex
 exact⟨f,fd,a,b,c,d⟩
theorem CalVD.of {P:Program}{w:World}{mg:Str->Option Value}{base:Heap}{x:Str}{st:Stmt}{f T:Addr}{items:Array Value}{fd:FuncData}{N ps:List Str}{k n:Nat}{sp:DSp}{ds:List Value}{dvs:List V}(Df:DefAtD K mg x st f fd T items)(S:FnScope N ps (Xac st))
  (hb:∀(kV doc pm:Value) (an:Option Addr) (cdv ct:Value) (us:List Value),us.length=ps.length->∃k,bindArgs (fnOf x x (Xar st) (Xan st) (Xac st) (.ref T) kV doc pm an cdv ct) ⟨us,[]⟩=seqItems? (.ref T) >>= k/\k (some items)=pure (ps.zip us))
  (hb2:∀(kV doc pm:Value) (an:Option Addr) (cdv ct:Value) (us:List Value),(us++ds).length=ps.length->∃k,bindArgs (fnOf x x (Xar st) (Xan st) (Xac st) (.ref T) kV doc pm an cdv ct) ⟨us,[]⟩=seqItems? (.ref T) >>= k/\k (some items)=pure (ps.zip (us++ds)))
  (hv:Xb5 dvs ds) (hn:n=ps.length)
  (hbody:∀(cdv:Value) (A:Around) (outer:List Env) (s:Shared) (H:Hp) (E:XK),Room k (A.deeper (envOfC x (Xac st) s.heap.objs.size f cdv))->
   ∃t T,PSs (Xn6 CX0 P w K mg base N x (Xac st) f cdv A outer s H E).nox (Xan st) t/\Xeg K t T/\∀ds Pr,sp ds Pr->T {nx:=λ_=>Pr (.fz .non),rt:=Pr} (Xfn N ds)):CalD P w K mg base x (k+1) ps (spV K n sp) dvs:=by
 obtain⟨oc,od,kV,doc,pm,an,cdv,ct,osl,rfl,lk,hcd⟩:=Df.ex
 obtain⟨o,m,ht,hs⟩:=Df.tup
 refine⟨f,_,ds,Ygq lk hcd S (λvs H Q E h=>by rw[<- hn];exact h.1) (λA outer s H vs Q E hr h=>?_),Df.here,Df.kp,λs us KX hl=>?_,λs us KX hl=>?_,hv⟩
 .obtain ⟨_,F,ds',Pr,hs',hr',hsp,hq⟩:=h
  obtain⟨t,T',h1,h2,h3⟩:=hbody cdv A outer s H E hr
  refine⟨t,h1.nox,h2 F H F H (Xe4 N vs) (Xfn N ds') {nx:=λ_=>Pr (.fz .non),rt:=Pr} _ ⟨_,Xhy hs' hr'⟩ ⟨λF' H' Y δ e p=>?_,λ_ _ _ _ _ z=>z.elim,λ_ _ _ _ _ z=>z.elim,λF' H' r v x n p=>hq r v F' H' p x n⟩ (h3 ds' Pr hsp)⟩
  exact hq _ _ F' H' p e.ext (.fz rfl)
 .rw [append_nil]at hl ⊢
  obtain⟨k',e1,e2⟩:=hb kV doc pm an cdv ct us hl
  exact binds_K KX rfl ht hs e1 e2
 .obtain ⟨k',e1,e2⟩:=hb2 kV doc pm an cdv ct us hl
  exact binds_K KX rfl ht hs e1 e2
end
section
variable {X:Cx}{K:Frag}{tg:Expr}
end
theorem Xix.mapB {α:Type}{Eo:DO}{o:Option Sl}{Xi0:Dst}{P:OV->Prop}(xs:List α)(g:α->D)(f:α->OV)(hn:xs.length<=1000000)
  (h:∀x∈xs,∀Q:OV->Prop,Q (f x)->Eo (some (.bw (g x))::Xi0) Q) (k:P (.nl (xs.map f))):Xix (gB 0) Eo (xs.map g) (o::Xi0) P:=by
 refine⟨λi δ ts=>∃o,δ=o::Xi0/\ts=(xs.take i).map f,⟨o,rfl,by simp⟩,?_,?_⟩
 .rintro i d δ ts hd ⟨o,rfl,rfl⟩
  obtain⟨x,hx,rfl⟩:=Ydd hd
  obtain⟨hi,e⟩:=List.getElem?_eq_some_iff.mp hx
  refine⟨by rw[length_map,length_take];omega,h x (mem_of_getElem? hx) _ ⟨_,rfl,?_⟩⟩
  rw[List.take_succ_eq_append_getElem hi,e,map_append]
  rfl
 .rintro δ ts ⟨o,rfl,rfl⟩
  rw[length_map,take_length]
  exact k
def ibN (i:Int):Nat:=if i=0 then 0 else i.natAbs.log2+1
theorem Ygj {i:Int}:ibN (i.natAbs:Int)=ibN i:=by
 unfold ibN
 by_cases h:i=0
 .subst h;rfl
 .rw [if_neg h,if_neg (by omega)];rfl
theorem Yjo {i:Int}{n:Nat}(h1 : -(2^n)<i)(h2:i<2^n):ibN i<=n:=by
 unfold ibN
 split
 .exact zero_le _
 .have hp:((2^n:Nat):Int)=(2:Int)^n:=by simp
  rw[<- hp]at h1 h2
  have hn:i.natAbs<2^n:=by omega
  have:i.natAbs.log2<n:=(Nat.log2_lt (by omega)).mpr hn
  omega
section
variable {K:Frag}{X:Cx}
theorem Yjp {i:Int}:Builtin.Int.intBits i=ibN i:=by
 unfold Builtin.Int.intBits ibN
 by_cases h:i=0
 .subst h;rfl
 .simp [h]
def Xqm (K:Frag):Sp:=spL 1 λvs H Q=>∃(a:Addr) (ns:List Int),vs=[.ref a]/\SqL K H a (ns.map V.int)/\ns.length<=63/\(∀m∈ns,ibN m<=1048576)/\∀H',Q (.bl true) H'
theorem Xl5:∀(ns:List Int),(∀m∈ns,ibN m<=PySem.W.WData.weightAll (ns.map PySem.W.WData.int))
 | [],m,h=>by cases h
 |n :: ns,m,h=>by
  rw[map_cons]
  simp only[PySem.W.WData.weightAll]
  rcases mem_cons.mp h with rfl |h
  .have:ibN m=PySem.W.WData.weight (PySem.W.WData.int m):=by
    unfold ibN
    simp only[PySem.W.WData.weight]
    by_cases z:m=0
    .subst z;rfl
    .simp [z]
   omega
  .have:=Xl5 ns m h
   omega
end
end L2
namespace Att
open PySem PySem.W PySem.Calls PyProof.Rows
theorem attach_callB {l:OpenLaw}{n:Nat}{q:Program}{loose:List Str}{XP:(Str->Option Value)->Heap->Prop}{YP:World->Heap->Prop}{d:DefRec}
  (hn:l.most=some n) (hdf:d.params.defaults=[])
  (call:∀(w:World) (s₀ s₁:Shared) (mg mb:Str->Option Value) (fa:Addr) (o:Obj) (pm cd doc:Value) (a:Addr) (vs:List Value) (ns:List Int),
   Ground q loose [] XP w s₀ mg mb s₁.heap->YP w s₁.heap->
   s₁.heap.get? fa=some o->o.data = .func (docDef d.name d.params d.body d.scope pm cd doc)->s₁.heap.CodeRec cd d.name->mg d.name=some (.ref fa)->
   s₁.heap.get? a=some {cls:=.type "list",data:=.seq vs.toArray}->IntsAre vs ns->ns.length<=n->(∀m∈ns,L2.ibN m<=1048576)->s₁.gens=#[]->
   codeAny (model l.prog w) callerA (.call (.ref fa) ⟨[.ref a],[]⟩) (λr s'=>r = .ok (.ret (.bool true))/\OldK s₁.heap s'.heap/\s'.os=s₁.os/\AllBare s'.gens) s₁):
  WalkO q loose XP YP l.row.toRowW d [] (λf vs=>PySem.call f vs):=by
 intro w s₀ s₁ mg mb G σ fa o pm cd doc dV kV ho hd hcd hD hmg hg args vals as hpre hlay hrd hwl hlo
 obtain rfl:dV = .none:=Dflts.none hD hdf
 obtain rfl:kV = .none:=Dflts.noKw hD
 obtain⟨a,vs,ns,rfl,rfl,hobj,hints,hlen⟩:=Xqp hn hpre hwl
 have hbits:∀m∈ns,L2.ibN m<=1048576:=λm hm=>by
  have h1:=L2.Xl5 ns m hm
  have h2:WData.weight (WData.list (ns.map WData.int))<=2^20:=by
   simp only[WData.layableAll,all_cons,WData.layable,and_eq_true,decide_eq_true_eq]at hlay
   exact hlay.1.2
  simp only[WData.weight]at h2
  omega
 refine enter_call (codeAny_mono (call w s₀ s₁ mg mb fa o pm cd doc a vs ns G σ ho (fd_plain hd) hcd hmg hobj hints hlen hbits hg) λr s' hq=>?_)
 obtain⟨rfl,h2,h3,h4⟩:=hq
 exact⟨.inl ⟨.bool true,.bool true,[],rfl,λ_=>rfl,.bool true,Xra l _,λ_=>⟨List.Pairwise.nil,λ_ hm=>(nomatch hm)⟩⟩,h2,h3,h4⟩
end Att
namespace L2
open PySem PySem.Spec PyProof.Rows
theorem Xyw {l:PySem.W.OpenLaw}{k:Nat}{q:Program}{loose:List Str}{XP:(Str->Option Value)->Heap->Prop}{YP:World->Heap->Prop}{d:DefRec}{K:Params->Frag}(hn:l.most=some 63)(hdf:d.params.defaults=[])(hr:Room k callerA)
  (hY:∀(w:World) (h:Heap),YP w h->(K w.params).In h)
  (F:∀(w:World) (mg:Str->Option Value) (fa:Addr) (h:Heap),(K w.params).In h->h.Ns mainGlobals mg->mg d.name=some (.ref fa)->
   ∃fd:FuncData,(∀(s:Shared) (u:Value),BindsTo s fd ⟨[u],[]⟩ [("_law_script",u)])/\∀base:Heap,(K w.params).In base->base.Ns mainGlobals mg->FnOk l.prog w (K w.params) mg base CX0 k fa fd ["_law_script"] (Xqm (K w.params))):
  PySem.W.WalkO q loose XP YP l.row.toRowW d [] (λf vs=>PySem.call f vs):=by
 refine Att.attach_callB hn hdf λw s₀ s₁ mg mb fa o pm cd doc a vs ns G σ ho hd hcd hmg hobj hints hlen hbits hg=>?_
 have KX:=hY w _ σ
 obtain⟨fd,hb,hF⟩:=F w mg fa _ KX G.T.g hmg
 exact Xun (CX:=CX0) (sp:=Xqm (K w.params)) KX G.T.g G.T.b G.T.builtins G.T.nolimit hg hobj hints (le_trans hlen (by decide)) hr hF hb (λH hO hS=>⟨rfl,a,ns,rfl,hS,hlen,hbits,λ_=>rfl⟩) λH e s' z=>z
theorem Ygb {P:Program}{w:World}{K:Frag}{mg:Str->Option Value}{base:Heap}{st:Stmt}{f:Addr}{fd:FuncData}{N:List Str}{k:Nat}(Df:DefAt K mg "law" st f fd)(S:FnScope N ["_law_script"] (Xac st))
  (hbody:∀(cdv:Value) (A:Around) (outer:List Env) (s:Shared) (H:Hp) (E:XK),Room k (A.deeper (envOfC "law" (Xac st) s.heap.objs.size f cdv))->
   ∃t T,PSs (Xn6 CX0 P w K mg base N "law" (Xac st) f cdv A outer s H E).nox (Xan st) t/\Xeg K t T/\∀ns:List Int,ns.length<=63->(∀m∈ns,ibN m<=1048576)->T {nx:=λ_=>False,rt:=λr=>r = .fz (.bl true)} (Xfn N [.lst (ns.map .int)])):FnOk P w K mg base CX0 (k+1) f fd ["_law_script"] (Xqm K):=
 Df.fn.ok S (λvs H Q E h=>h.1) λcdv A outer s H vs Q E hr h=>by
  obtain⟨_,a,ns,rfl,hS,hlen,hbits,q⟩:=h
  obtain⟨t,T,h1,h2,h3⟩:=hbody cdv A outer s H E hr
  have hr':Xb4 K H [.lst (ns.map D.int)] [.ref a]:=⟨_,_,rfl,⟨a,_,rfl,hS,Xj8.mpr rfl⟩,rfl⟩
  refine⟨t,h1,h2 H H H H (Xe4 N [.ref a]) (Xfn N [.lst (ns.map .int)]) {nx:=λ_=>False,rt:=λr=>r = .fz (.bl true)} _ ⟨_,Xhy (Xbi.refl H) hr'⟩ ⟨λF' H' Y δ e p=>p.elim,λ_ _ _ _ _ z=>z.elim,λ_ _ _ _ _ z=>z.elim,λF' H' r v x n p=>?_⟩ (h3 ns hlen hbits)⟩
  subst p
  obtain⟨A,n1,_⟩:=n
  have:v = .bl true:=n1.2
  subst this
  exact q H'
section
variable {X:Cx}{K:Frag}{mg:Str->Option Value}
end
def Ykh (E:DE):DE:=λδ P=>E δ λd=>match d with
 | .int i=>P (.int (ibN i))
 |_=>False
section
variable {X:Cx}{K:Frag}
def rBitL:V->List V->Hp->VK->Prop:=λx xs H Q=>∃i,x = .int i/\xs=[]/\Q (.int (ibN i)) H
theorem Yf3:MtR X "int.bit_length" rBitL:=by
 intro pins s Y H x vs v us Q I rx rv h
 obtain⟨i,rfl,rfl,q⟩:=h
 obtain⟨t,rfl⟩:=rx
 cases rv
 refine call_int_bit_length ?_
 rw[Yjp]
 exact⟨.int _,H,I.tok _,⟨_,rfl⟩,q⟩
theorem Ye0 {to:TE}{E:DE}(h:Xgi K to E):Xeh K (Ykt K "int" rBitL to) (Ykh E):=λF0 H0 F H Y δ P Q e w q=>h F0 H0 F H Y δ _ _ e w λd v F1 H1 w1 x1 r1=>by
 try dsimp only at w1
 split at w1
 .have e1:v=_:=r1
  subst e1
  exact⟨rfl,_,rfl,rfl,q _ _ F1 H1 w1 x1 rfl⟩
 .exact w1.elim
theorem Xz7:CbS K (Yif K) Yf5:=λF H ds vs P Q s rs w q=>by
 unfold Yf5 at w
 split at w
 .obtain ⟨ns,rfl,hn,w⟩:=w
  obtain⟨v,rfl,p,us,rfl,h1,h2⟩:=Xjm rs
  rw[Xj8]at h2
  subst h2
  exact⟨p,ns,rfl,h1,hn,λM hM hA=>q _ _ F H (w M hM hA) (Ext.refl s) rfl⟩
 .exact w.elim
end
section
variable {K:Frag}{mg:Str->Option Value}
end
section
variable {X:Cx}{K:Frag}
end
section
variable {X:Cx}{K:Frag}
end
section
variable {X:Cx}{K:Frag}{mg:Str->Option Value}
theorem Inv.turnedL {pins:List (Addr×Obj)}{Y:St}{H:Hp}{s:Shared}{h':Heap}{t':Nat}{L:List Addr}(I:Inv X pins Y H s)(k:∀b o,b∉L->s.heap.get? b=some o->h'.get? b=some o)(f:∀b∈L,Xn9 X pins H b):Inv X pins Y H {s with heap:=h',toks:=t'}:=by
 have nn:∀b u,H b=some u->b∉L:=λb u e z=>by
  obtain⟨p0,_⟩:=f b z
  rw[p0]at e;cases e
 refine I.step (g':=s.gens) (d':=s.drawn) (ch:=L) (λb hb=>?_) (λb o _ _ hc e _=>k b o hc e) (λb o _ _ hc e _=>⟨o.slots,k b o hc e⟩) (λ_ _ _ _ n=>n)
  (λb o hc e=>⟨o,k b o hc e⟩) (λ_ _ e=>e) (λ_ _ _ e=>e) (λb ps e=>⟨#[],by rw[e];simp⟩) (λm hm=>?_) (λb u e=>?_) I.bare
 .obtain ⟨p0,p1,p2,p3,p4,p5⟩:=f b hb
  exact⟨p3,p1,p4,p5⟩
 .obtain ⟨o,es,ep,ho,r⟩:=hm
  refine⟨o,es,ep,k _ o (λz=>?_) ho,r⟩
  obtain⟨p0,p1,_⟩:=f _ z
  exact p1 rfl
 .refine (I.hok b u e).stay (λc v hc q=>k c v ?_ q) (λ_ q=>q) λ_ _ q=>q
  rcases hc with z |z
  .rw [z];exact nn b u e
  .exact nn c _ z
end
def Yj6 (Eo:DO)(Eb:DE):DO:=λδ P=>Eo δ λr=>match r with
 | .nl [.fz d]=>Eb δ λy=>match y with
  | .int k=>(0<=k/\k<=1000000)/\P (.nl (List.replicate k.toNat (.fz d)))
  |_=>False
 |_=>False
section
variable {X:Cx}{K:Frag}{mg:Str->Option Value}
theorem Xb4.rep {F:Hp}{d:D}{v:V}(h:Rep K F d v):∀n:Nat,Xb4 K F (List.replicate n d) (List.replicate n v)
 | 0=>rfl
 |n+1=>⟨v,List.replicate n v,rfl,h,Xb4.rep h n⟩
theorem Yer {ta tb:TE}{Eo:DO}{Eb:DE}(ha:Xjx K ta Eo)(hb:Xgi K tb Eb):Xjx K (tOp Ymm ta tb) (Yj6 Eo Eb):=λF0 H0 F H Y δ P Q e w q=>
 ha F0 H0 F H Y δ _ _ e w λr v F1 H1 w1 x1 r1=>by
  try dsimp only at w1
  split at w1
  .rename_i d
   obtain⟨A0,⟨p,vs,B,rfl,rfl,hp,hB⟩,a2,a3⟩:=r1
   obtain⟨v0,r0,B1,C,rfl,rfl,⟨_,rd⟩,hC,_⟩:=hB
   subst hC
   refine hb F0 H0 F1 H1 Y δ _ _ (e.on x1) w1 λy u F2 H2 w2 x2 r2=>?_
   try dsimp only at w2
   split at w2
   .rename_i k
    obtain⟨⟨k0,k1⟩,pr⟩:=w2
    have x12:=x1.trans x2
    cases r2
    refine⟨p,k,[v0],rfl,rfl,x2.hh _ _ hp,by omega,by omega,Xcj (by simp;omega),λl l0=>?_⟩
    have ef:(List.replicate k.toNat [v0]).flatten=List.replicate k.toNat v0:=List.flatten_replicate_singleton
    rw[ef]
    have em:(List.replicate k.toNat d).map OV.fz=List.replicate k.toNat (OV.fz d):=List.map_replicate
    refine q _ _ F2 _ pr (x12.trans (Ext.grow x2.fh (Xbi.new l0))) ?_
    rw[<- em]
    exact Xno.list (x12.hh.free l0) (x2.fh.free l0) Xay (Xb4.rep (rd.mono x2.ff) _)
   .exact w2.elim
  .exact w1.elim
end
section
variable {prog:Program}{w:World}{A:Around}{E:Value->Shared->Prop}{s:Shared}
end
section
variable {X:Cx}{K:Frag}{tg:Expr}
end
section
variable {X:Cx}{K:Frag}
theorem BlkScope.nofree {outer sc:Scope}(h1:sc.kind = .function)(h2:∀y∈sc.names,y.2≠.cell)(h3:∀y∈sc.names,y.2≠.free)(h4:∀y∈sc.names,y.2 = .local->sc.names.lookup y.1=some .local):BlkScope outer sc:=
 ⟨h1,h2,λy hy e=>absurd e (h3 y hy),h4⟩
end
section
variable {prog:Program}{w:World}{A:Around}{E:Value->Shared->Prop}{s:Shared}
theorem Xrx {t sl:Addr}{items:Array Value}{vl vu:Value}{lo hi:Option Int}{Q:Value->Shared->Prop}(ht:IsTup s.heap t items)(hs:s.heap.IsSliceOf sl vl vu .none)(pl:IsPart vl lo)(pu:IsPart vu hi)
  (hw:HT.sIx items.size 0 lo=0/\HT.sIx items.size items.size hi=items.size) (h:Q (.ref t) s):wpAny (model prog w) A (getItem (.ref t) (.ref sl)) Q E s:=by
 obtain⟨os,hos,hcs,hds⟩:=id hs
 have hTs:s.TypeIs (.ref sl) "slice":=⟨os,hos,hcs⟩
 unfold getItem
 try with_reducible refine wpAny_holding ?_
 first |refine wpAny_bind (wpAny_pure ?_) |skip
 refine wpAny_bind (wpAny_sequenceKey ht.typeIs (by decide) ?_)
 refine wpAny_bind (wpAny_callSpecial?_slot (name:=Str.ofString "__getitem__") ht.typeIs PyProof.Rows.slot_tuple_getitem
  (wpAny_call_entry PyProof.Rows.slot_tuple_getitem ht.typeIs entry_tuple_getitem ?_ (args_tuple_getitem _ _)))
 show wpAny _ _ (Builtin.Tuple.tupleItemsOf (.ref t) >>= _) _ _ s
 refine wpAny_bind (tupleItemsOf_ ht ?_)
 refine wpAny_bind (wpAny_typeOf hTs ?_)
 rw[if_pos (by decide)]
 refine wpAny_bind (HT.sliceApplied_gen hs pl pu ?_)
 have hyes:((((HT.sIx items.size 0 lo:Nat):Int)==0 && (1:Int)==1 && (HT.sIx items.size items.size hi-HT.sIx items.size 0 lo)==items.size)=true):=by
  rw[hw.1,hw.2];simp
 show wpAny _ _ (if (((HT.sIx items.size 0 lo:Nat):Int)==0 && (1:Int)==1 && (HT.sIx items.size items.size hi-HT.sIx items.size 0 lo)==items.size)=true then _ else _) _ _ s
 rw[if_pos hyes]
 obtain⟨ob,hob,hcls,n,hdat⟩:=id ht
 refine wpAny_bind (m:=Builtin.Tuple.tupleIsExact (.ref t)) ?_
 unfold Builtin.Tuple.tupleIsExact
 refine wpAny_bind (wpAny_typeOf ht.typeIs (wpAny_pure ?_))
 rw[if_pos (show (Value.type "tuple"==Value.type "tuple")=true by decide)]
 refine wpAny_bind (wpAny_rule ?_)
 exact wpAny_pure ⟨_,rfl,wpAny_pure h⟩
end
def Yid (K:Frag):V->Option Int->Option Int->Hp->VK->Prop:=λx lo hi H Q=>∃a xs,x = .ref a/\SqT K H a xs/\((HT.sIx xs.length 0 lo=0/\HT.sIx xs.length xs.length hi=xs.length)->Q (.ref a) H)/\
 (¬ (HT.sIx xs.length 0 lo=0/\HT.sIx xs.length xs.length hi=xs.length)->∀p,H p=none->Q (.ref p) (upd H p (.tup (Yaf xs lo hi))))
theorem Xw9 {X:Cx}:SlR X (Yid X.K):=by
 intro pins s Y H x v vl vu lo hi sl Q I rx hs pl pu h
 obtain⟨a,xs,rfl,hx,q1,q2⟩:=h
 by_cases hw:HT.sIx xs.length 0 lo=0/\HT.sIx xs.length xs.length hi=xs.length
 .cases rx
  obtain⟨its,r,ht,hz⟩:=I.tuple hx
  have hlen:its.toArray.size=xs.length:=by rw[size_toArray];exact r.length.symm
  refine⟨"tuple",_,PyProof.Rows.slot_tuple_getitem.lookup,ht.typeIs,?_⟩
  exact Xrx ht hs pl pu (by rw[hlen];exact hw) ⟨.ref a,H,I,rfl,q1 hw⟩
 .exact Yhx pins s Y H (.ref a) v vl vu lo hi sl Q I rx hs pl pu ⟨a,xs,rfl,hx,hw,q2 hw⟩
def Ym0 (Ea:DE)(L U:DPt):DE:=λδ P=>Ea δ λx=>L δ λlo=>U δ λhi=>match x with
 | .tup xs=>P (.tup (Ydy xs lo hi))
 |_=>False
theorem Xwa {xs:List D}{lo hi:Option Int}(h:HT.sIx xs.length 0 lo=0/\HT.sIx xs.length xs.length hi=xs.length):Ydy xs lo hi=xs:=by
 unfold L2.Ydy
 rw[h.1,h.2,List.drop_zero,Nat.sub_zero,take_length]
theorem Ycx {K:Frag}{ta:TE}{Ea:DE}{tl tu:TO}{L U:DPt}(ha:Xeh K ta Ea)(hl:Yd1 K tl L)(hu:Yd1 K tu U):Xeh K (tSl (Yid K) ta tl tu) (Ym0 Ea L U):=λF0 H0 F H Y δ P Q e w q=>
 ha F0 H0 F H Y δ _ _ e w λx v F1 H1 w1 x1 r1=>hl F0 H0 F1 H1 Y δ _ _ (e.on x1) w1 λlo F2 H2 w2 x2=>hu F0 H0 F2 H2 Y δ _ _ ((e.on x1).on x2) w2 λhi F3 H3 w3 x3=>by
  have x13:=x1.trans (x2.trans x3)
  try dsimp only at w3
  split at w3
  .obtain ⟨p,vs,rfl,h1,h2⟩:=r1.mono (x2.ff.trans x3.ff)
   have hln:=h2.length
   refine⟨p,vs,rfl,x3.fh.seqT h1,λhw=>?_,λhw l l0=>?_⟩
   .rw [<- hln]at hw
    rw[Xwa hw]at w3
    exact q _ _ F3 H3 w3 x13 ⟨p,vs,rfl,h1,h2⟩
   .exact q _ _ _ _ w3 (x13.trans (Ext.new x3.fh l0 (Xbi.new l0) Xay)) ⟨l,_,rfl,.inl (.inl Xay),(h2.cut lo hi).mono (Xbi.upd' (x3.fh.free l0))⟩
  .exact w3.elim
section
variable {X:Cx}{K:Frag}{mg:Str->Option Value}
end
section
variable {X:Cx}{K:Frag}{mg:Str->Option Value}
def Yac (K:Frag)(mg:Str->Option Value)(x:Str)(d:D):Prop:=∃a,mg x=some (.ref a)/\∀F,Rep K F d (.ref a)
def tGl (K:Frag)(d:D):TE:=λ_ H Q=>∀v,(∀F,Rep K F d v)->Q v H
theorem Xff {x:Str}{d:D}{pos:Pos}(hg:Gl X x)(hm:Yac X.K X.mg x d)(hd:(x==("__debug__":Str))=false:=by decide):PE X (.Name x pos) (tGl X.K d):=by
 intro pins s Y H Q I h
 obtain⟨a,e,r⟩:=hm
 exact Xjo (v:=.ref a) hg e rfl hd pins s Y H Q I (h _ r)
theorem Xgb {x z:Str}{pos:Pos}(hg:Gl X x)(hm:∃t,X.mg x=some (.str z t))(hd:(x==("__debug__":Str))=false:=by decide):PE X (.Name x pos) (tC (.str z)):=by
 obtain⟨t,e⟩:=hm
 exact Xjo hg e ⟨t,rfl⟩ hd
theorem Xpc {d:D}:Xeh K (tGl K d) (dC d):=λF0 H0 F H Y δ P Q e w q=>λv r=>q d v F H w (Ext.refl e.ext.fh) (r F)
end
open PySem PySem.Spec PyProof.Rows PyProof.V PySem.W
section
variable {P:Program}{w:World}{H:Hp}{h:Heap}{a:Addr}{o:HO}
theorem Xf2.at:∀{o:HO},Xf2 P w H h a o->∃u,h.get? a=some u
 | .lst _,x=>by obtain⟨_,_,_,_,e⟩:=x;exact⟨_,e⟩
 | .tup _,x=>by obtain⟨_,_,_,ob,e,_⟩:=x;exact⟨_,e⟩
 | .dK _,x=>by obtain⟨_,_,_,_,o,_,_,e,_⟩:=x;exact⟨_,e⟩
 | .dT _,x=>by obtain⟨_,_,_,_,o,_,_,e,_⟩:=x;exact⟨_,e⟩
 | .set _ _,x=>by obtain⟨o,_,_,_,e,_⟩:=x;exact⟨_,e⟩
 | .ins _ _ _,x=>by obtain⟨_,_,_,e,_⟩:=x;exact⟨_,e⟩
 | .own _,x=>x
 | .xd _,x=>by obtain⟨_,⟨od,_,_,e,_⟩,_⟩:=x;exact⟨_,e⟩
 | .rng _ _,x=>by obtain⟨_,_,_,e⟩:=x;exact⟨_,e⟩
 | .frz _ _,x=>⟨_,x.1⟩
 | .tbl _,x=>⟨_,x⟩
 | .met _ _,x=>⟨_,x⟩
 | .ext _,x=>x.2.1
end
def CXE (P:Program)(w:World):CXT:=λouter H s E e s'=>∃(a C:Addr) (a0:Value) (B:Heap) (H':Hp),e = .ref a/\E (.ref C) none H'/\Heap.FlyingW B outer a (.ref C) a0 s'.heap/\
 (∀b o,s'.heap.get? b=some o->b∉frs outer->((∃o0,s.heap.get? b=some o0)∨∃u,H' b=some u)->B.get? b=some o)/\Un (frs outer) [] H H' s.heap s'.heap/\HOk P w H' s'.heap/\AllBare s'.gens/\s'.os=s.os/\H' a=none
section
variable {P:Program}{w:World}{K:Frag}{mg:Str->Option Value}{base:Heap}{N:List Str}{qual:Str}{scope:Scope}{f:Addr}{cd:Value}{A:Around}{outer:List Env}{s:Shared}{H:Hp}{E:XK}
theorem Xq8 {pins:List (Addr×Obj)}{Y:St}{H1:Hp}{s1:Shared}{C a:Addr}{args:List Value}{h2:Heap}(I:Inv (Xn6 (CXE P w) P w K mg base N qual scope f cd A outer s H E) pins Y H1 s1)(hx:Heap.MadeExcOf s1.heap h2 a (.ref C) args)
  (hE:E (.ref C) none H1):(Xn6 (CXE P w) P w K mg base N qual scope f cd A outer s H E).xe (.ref a) {s1 with heap:=h2}:=by
 have hfr:(A.deeper (envOfC qual scope s.heap.objs.size f cd)).frames=some (envOfC qual scope s.heap.objs.size f cd::outer):=I.ok.frames
 have hfun:s1.heap.FunFrames base (envOfC qual scope s.heap.objs.size f cd::outer):=I.stack
 have hfree:∀b∈frs (envOfC qual scope s.heap.objs.size f cd::outer),H1 b=none:=I.stkFree
 have hbase:Un (frs outer) [] H H1 s.heap s1.heap:=I.base
 have hin:∀e∈(envOfC qual scope s.heap.objs.size f cd::outer),∀b,e.frame=some b->b∈frs (envOfC qual scope s.heap.objs.size f cd::outer):=λe he b hb=>mem_filterMap.mpr ⟨e,he,hb⟩
 have sub:∀b,b∈frs (envOfC qual scope s.heap.objs.size f cd::outer)->b=s.heap.objs.size∨b∈frs outer:=λb hb=>by
  obtain⟨e,he,hf⟩:=mem_filterMap.mp hb
  rcases mem_cons.mp he with rfl |he
  .exact .inl (Option.some.inj hf).symm
  .exact .inr (mem_filterMap.mpr ⟨e,he,hf⟩)
 have sup:∀b,b∈frs outer->b∈frs (envOfC qual scope s.heap.objs.size f cd::outer):=λb hb=>by
  obtain⟨e,he,hf⟩:=mem_filterMap.mp hb
  exact mem_filterMap.mpr ⟨e,mem_cons_of_mem _ he,hf⟩
 have old:∀b o,s.heap.get? b=some o->b∉frs outer->b∉frs (envOfC qual scope s.heap.objs.size f cd::outer):=λb o q hb z=>by
  rcases sub b z with y |y
  .rw [y]at q;exact absurd (lt_size q) (lt_irrefl _)
  .exact hb y
 refine wpAny_leaves_madeW (base:=hideAll s1.heap (frs (envOfC qual scope s.heap.objs.size f cd::outer))) (h:=s1.heap) (L:=s.heap.objs.size) hfr rfl (λb o q=>of_hideAll _ q) (PySem.W.funFrames_hide hfun hin) hx λh' t x1 x2 x3 x4=>?_
 have keepB:∀b o,s1.heap.get? b=some o->b∉frs (envOfC qual scope s.heap.objs.size f cd::outer)->h'.get? b=some o:=λb o q hb=>x1.1 b o (hideAll_get _ q hb)
 have slotF:∀b o,b∈frs (envOfC qual scope s.heap.objs.size f cd::outer)->s1.heap.get? b=some o->∃sl,h'.get? b=some {o with slots:=sl}:=λb o hb q=>by
  obtain⟨_,o',ho',hd⟩:=hfun.mem hb
  rw[q]at ho';cases ho'
  exact x4 b o (hx.keeps b o q) hd
 have hok:HOk P w H1 h':=λb u e=>(I.hok b u e).stay (λc v hc q=>keepB c v q λz=>by
  have:=hfree c z
  rcases hc with y |y
  .rw [y,e]at this;cases this
  .rw [y]at this;cases this) (λ_ q=>q) λ_ _ q=>q
 have hna:H1 a=none:=by
  cases q:H1 a with
  |none=>rfl
  |some u=>
   obtain⟨o,ho⟩:=(I.hok a u q).at
   rw[hx.new]at ho;cases ho
 refine⟨a,C,.ref t,_,H1,rfl,hE,x1,λb o q hb hc=>?_,⟨λb o q n hb hx'=>?_,λb o q n hb hx'=>?_,hbase.free,λb o q hx'=>?_,hbase.tups,hbase.frzs,hbase.tbls⟩,hok,I.bare,I.os,hna⟩
 .have key:∃o1,s1.heap.get? b=some o1/\b∉frs (envOfC qual scope s.heap.objs.size f cd::outer):=by
   rcases hc with⟨o0,q0⟩ | ⟨u,q0⟩
   .obtain ⟨o1,q1⟩:=hbase.there b o0 q0 (by simp)
    exact⟨o1,q1,old b o0 q0 hb⟩
   .obtain ⟨o1,q1⟩:=(I.hok b u q0).at
    exact⟨o1,q1,λz=>by rw[hfree b z]at q0;cases q0⟩
  obtain⟨o1,q1,hn⟩:=key
  have:=keepB b o1 q1 hn
  rw[q]at this;cases this
  exact hideAll_get _ q1 hn
 .exact keepB b o (hbase.keep b o q n hb hx') (old b o q hb)
 .obtain ⟨sl,q1⟩:=hbase.slot b o q n hb hx'
  obtain⟨sl2,q2⟩:=slotF b _ (sup b hb) q1
  exact⟨sl2,q2⟩
 .obtain ⟨o1,q1⟩:=hbase.there b o q hx'
  by_cases hb:b∈frs (envOfC qual scope s.heap.objs.size f cd::outer)
  .obtain ⟨sl,q2⟩:=slotF b o1 hb q1
   exact⟨_,q2⟩
  .exact ⟨_,keepB b o1 q1 hb⟩
def Ycj (tm:TE)(EX:Hp->Prop):TS:=λ_ Y H=>tm Y H λx H1=>[x].length<=sizeLine/\EX H1
theorem Xud {x:Str}{C:Addr}{bmB:List Value}{B newId initId:String}{np cpos pos:Pos}{e₀:Expr}{tm:TE}(hg:Gl (Xn6 (CXE P w) P w K mg base N qual scope f cd A outer s H E) x)(O:OwnCls x C bmB newId mg base)(FB:ExcBaseFacts B newId initId bmB)
  (hh:(A.deeper (envOfC qual scope s.heap.objs.size f cd)).handled=none) (he:PE (Xn6 (CXE P w) P w K mg base N qual scope f cd A outer s H E) e₀ tm) (hd:(x==("__debug__":Str))=false:=by decide)
  (hs:starEach [e₀] (envOfC qual scope s.heap.objs.size f cd)=[(false,eval e₀ (envOfC qual scope s.heap.objs.size f cd))]:=by rfl):
  PS (Xn6 (CXE P w) P w K mg base N qual scope f cd A outer s H E) (.Raise (some (.Call (.Name x np) [e₀] [] cpos)) none pos) (Ycj tm λH'=>E (.ref C) none H'):=by
 intro pins s1 Y H1 D I h
 obtain⟨tl,N',nm,q,bs,hdct,sn,sub,ab,col,dd,k0,k1,k2,k3,k5,mN,hC,hN,hni,T⟩:=O.obj
 refine wpAny_Raise_call_subT (C:=C) (nm:=nm) (q:=q) (N:=N') (bs:=bs) (bm:=tl) (hdct:=hdct) (sn:=sn) (sub:=sub) (ab:=ab) (col:=col) (dd:=dd) (k0:=k0) (k1:=k1) (k2:=k2) (k3:=k3) (k5:=k5)
  FB (mN:=mN) (T.hasType FB.hasBase) hh ?_ hni (Xky I hg O.bound ⟨rfl,?_⟩ hd)
 .show (backTo cpos (starEach [e₀] (envOfC qual scope s.heap.objs.size f cd))).any (·.1)=false
  rw[hs];rfl
 .have ha:=(Xaa he Xad hs) cpos pins s1 Y H1 (λvs H2=>vs.length<=sizeLine/\E (.ref C) none H2) I h
  change wpAny _ _ (spliced (backTo cpos (starEach [e₀] (envOfC qual scope s.heap.objs.size f cd)))) _ _ s1 at ha
  show wpAny _ _ (evalArgs (.ref C) true (backTo cpos (starEach [e₀] (envOfC qual scope s.heap.objs.size f cd))) []) _ _ s1
  rw[hs]at ha ⊢
  refine Calls.evalArgs_plain (wpAny_mono ha (λus s2 h2=>?_) λ_ _ y=>y)
  obtain⟨vs,H2,I2,r,hl,q2⟩:=h2
  refine⟨rfl,?_,I2.bk _ _ hC,hN.keeps I2.bk,T.keeps I2.bk,λh' e hm=>Xq8 I2 hm q2⟩
  show us.length<=sizeLine
  rw[<- r.length];exact hl
end
abbrev Cx.hdl (X:Cx)(a:Addr):Cx:={X with A:=X.A.mark (some (.ref a)),calm:=false,xe:=λ_ _=>False}
section
variable {X:Cx}{pins:List (Addr×Obj)}{Y:St}{H:Hp}{s:Shared}
theorem Inv.hdl (I:Inv X pins Y H s)(a:Addr):Inv (X.hdl a) pins Y H s:=
 ⟨⟨I.ok.mod,I.ok.kind,I.ok.glob,I.ok.blt,I.ok.above,I.ok.inj,I.ok.has,I.ok.cab,(λz=>by cases z),I.ok.frames,I.ok.stk,I.ok.exf,I.ok.bs,I.ok.bsz,I.ok.noex,I.ok.exfs,I.ok.funs,I.ok.frf⟩,I.os,I.bare,I.base,I.loc,I.cell,I.free,I.freeC,I.pin,I.hok,I.len⟩
theorem Inv.unhdl {a:Addr}(ok:X.Ok)(I:Inv (X.hdl a) pins Y H s):Inv X pins Y H s:=⟨ok,I.os,I.bare,I.base,I.loc,I.cell,I.free,I.freeC,I.pin,I.hok,I.len⟩
theorem Inv.goes {n:Str}{i:Nat}{m:Str->Option Value}{v:Option Value}{h':Heap}{tk:Nat}(I:Inv X pins Y H s)(hN:X.N.Nodup)(hi:X.N[i]?=some n)(hl:∀(j:Nat) (x:Str) (w:V),X.N[j]?=some x->Y[j]?=some (some w)->Vis X.env.scope x->∃u,Xeb w u/\Ynd X.env s.heap m x u)
  (hn:h'.Ns X.env.locals (λx=>if x=n then v else m x)) (hs:Heap.SameBut X.env.locals s.heap h'):Inv X pins (Y.set i none) H {s with heap:=h',toks:=tk}:=by
 have cne:=I.cne
 have lt:∀{b o},X.s₀.heap.get? b=some o->b≠X.env.locals:=λ{b o} e=>ne_of_lt (lt_of_lt_of_le (lt_size e) I.ok.above)
 refine⟨I.ok,I.os,I.bare,⟨λb o e n hb hx=>?_,λb o e n hb hx=>?_,I.base.free,λb o e hx=>?_,I.base.tups,I.base.frzs,I.base.tbls⟩,⟨_,hn,λj y v' e1 e2 e3=>?_⟩,λy c e=>?_,I.free,I.freeC,λp hp=>?_,λb ob e=>?_,by simpa using I.len⟩
 .exact (hs.2 b (lt e)).trans (I.base.keep b o e n hb hx)
 .obtain ⟨sl,e1⟩:=I.base.slot b o e n hb hx
  exact⟨sl,(hs.2 b (lt e)).trans e1⟩
 .obtain ⟨o',e1⟩:=I.base.there b o e hx
  exact⟨o',(hs.2 b (lt e)).trans e1⟩
 .by_cases hj:j=i
  .subst hj
   have hjl:j<Y.length:=by rw[I.len];exact (List.getElem?_eq_some_iff.mp hi).1
   rw[getElem?_set_self hjl]at e2
   cases e2
  .rw [getElem?_set_ne (Ne.symm hj)]at e2
   obtain⟨u',r',q⟩:=hl j y v' e1 e2 e3
   refine⟨u',r',?_⟩
   rcases q with⟨k,e⟩ | ⟨k,c,e,z⟩
   .refine .inl ⟨k,?_⟩
    have:y≠n:=λe=>hj (Xpo hN e1 (e▸hi))
    simp[this,e]
   .exact .inr ⟨k,c,e,z.sameBut hs (cne y c e)⟩
 .obtain ⟨w',z⟩:=I.cell y c e
  exact⟨w',z.sameBut hs (cne y c e)⟩
 .obtain ⟨e,n,ne,nf,d⟩:=I.pin p hp
  exact⟨(hs.2 p.1 ne).trans e,n,ne,nf,d⟩
 .refine (I.hok b ob e).stay (λc w' hc q=>(hs.2 c ?_).trans q) (λ_ q=>q) λ_ _ q=>q
  rintro rfl
  have hf:=I.free
  rcases hc with rfl |hc
  .rw [hf]at e;cases e
  .rw [hf]at hc;cases hc
theorem Inv.caught {H':Hp}{s':Shared}{B:Heap}{a C:Addr}{a0:Value}{h6:Heap}(I:Inv X pins Y H s)(fl:Heap.FlyingW B X.stack a (.ref C) a0 s'.heap)
  (agree:∀b o,s'.heap.get? b=some o->b∉frs X.stack->((∃o0,s.heap.get? b=some o0)∨∃u,H' b=some u)->B.get? b=some o) (un:Un (frs X.stack) [] H H' s.heap s'.heap) (hok:HOk X.prog X.w H' s'.heap) (bare:AllBare s'.gens) (hos:s'.os=s.os) (hna:H' a=none)
  (fl6:Heap.FlyingW B X.stack a (.ref C) a0 h6) (sm:s'.heap.UpToSlots h6):Inv X pins Y (upd H' a (.ext (Xtl a (.ref C)))) {s' with heap:=h6}:=by
 have hfree:∀b∈frs X.stack,H' b=none:=λb hb=>by
  obtain⟨_,o,ho,_⟩:=I.stack.mem hb
  exact un.free b o ho (I.stkFree b hb) (by simp)
 have nonf:∀b∈frs X.stack,∀o,s'.heap.get? b=some o->∀vs,o.data≠.fields vs:=λb hb o q=>by
  obtain⟨_,o',ho',hd⟩:=fl.2.2.1.mem hb
  rw[q]at ho';cases ho';exact hd
 have keepB:∀b o,s'.heap.get? b=some o->b∉frs X.stack->((∃o0,s.heap.get? b=some o0)∨∃u,H' b=some u)->h6.get? b=some o:=λb o q hb hc=>fl6.1 b o (agree b o q hb hc)
 obtain⟨oe,ws,hoe,hoec,hoed,_⟩:=fl6.first
 have hsa:s.heap.get? a=none:=by
  cases q:s.heap.get? a with
  |none=>rfl
  |some o0=>
   obtain⟨o',q'⟩:=un.there a o0 q (by simp)
   by_cases hb:a∈frs X.stack
   .obtain ⟨oe',ws',he',_,hd',_⟩:=fl.first
    exact absurd hd' (nonf a hb oe' he' ws')
   .have:=agree a o' q' hb (.inl ⟨o0,q⟩)
    rw[fl.2.1]at this;cases this
 have ha:∀b u,H' b=some u->b≠a:=λb u e z=>by rw[z,hna]at e;cases e
 refine I.call' (ch:=[]) hos ⟨λb o q n hb hx=>?_,λb o q n hb hx=>?_,λb o q n hx=>?_,λb o q hx=>?_,λb xs e=>?_,λb o u e=>?_,λb ps e=>?_⟩ (λb u e=>?_) bare (λb z=>absurd z (by simp))
 .exact keepB b o (un.keep b o q n hb hx) hb (.inl ⟨o,q⟩)
 .obtain ⟨sl,q1⟩:=un.slot b o q n hb hx
  obtain⟨sl2,q2⟩:=sm b _ q1 (nonf b hb _ q1)
  exact⟨sl2,q2⟩
 .rw [Xbv λz=>by rw[z,hsa]at q;cases q]
  exact un.free b o q n hx
 .obtain ⟨o',q1⟩:=un.there b o q hx
  by_cases hb:b∈frs X.stack
  .obtain ⟨sl2,q2⟩:=sm b _ q1 (nonf b hb _ q1)
   exact⟨_,q2⟩
  .exact ⟨_,keepB b o' q1 hb (.inl ⟨o,q⟩)⟩
 .have:=un.tups b xs e
  rw[Xbv (ha b _ this)];exact this
 .have:=un.frzs b o u e
  rw[Xbv (ha b _ this)];exact this
 .obtain ⟨more,this⟩:=un.tbls b ps e
  exact⟨more,by rw[Xbv (ha b _ this)];exact this⟩
 .by_cases hb:b=a
  .subst hb
   rw[Xay]at e
   cases e
   exact⟨⟨oe,hoe,hoec⟩,⟨oe,hoe⟩,λh1 h2 ⟨o,e1,e2⟩ k=>⟨o,k o e1,e2⟩⟩
  .rw [Xbv hb]at e
   refine (hok b u e).stay (λc v hc q=>?_) (λc q=>by rw[Xbv (ha c _ q)];exact q) λc xs q=>by rw[Xbv (ha c _ q)];exact q
   have hcu:∃u,H' c=some u:=by
    rcases hc with rfl |hc
    .exact ⟨_,e⟩
    .exact ⟨_,hc⟩
   exact keepB c v q (λz=>by obtain⟨u,hu⟩:=hcu;rw[hfree c z]at hu;cases hu) (.inr hcu)
end
structure CalX (P:Program) (w:World) (K:Frag) (mg:Str->Option Value) (base:Heap) (x:Str) (k:Nat) (ps:List Str) (sp:Sp):Prop where
 ex:∃f fd,FnOk P w K mg base (CXE P w) k f fd ps sp/\mg x=some (.ref f)/\keepIn K (.ref f)=true/\Xjv K fd ps []
section
variable {X:Cx}
end
open PySem PySem.Spec PyProof.Rows
abbrev DMo:=List OV->List D->(List OV->Prop)->Prop
def Ym8 (c:Str)(ns:List Str)(j:Nat)(E:DE):DE:=λδ P=>E δ λd=>match d with
 | .obj c' ns' ds=>c'=c/\ns'=ns/\∃x,ds[j]?=some x/\P x
 |_=>False
def Ye1 (c:Str)(ns:List Str)(i j:Nat)(Eo:DO):DS:=λDe δ=>match δ[i]? with
 |some (some (.own (.ob o c' ns' ts)))=>c'=c/\ns'=ns/\j<ts.length/\Eo δ λr=>De.nx (δ.set i (some (.own (.ob o c ns (ts.set j r)))))
 |_=>False
def Ye3 (c:Str)(ns:List Str)(i j:Nat)(Eo:DO):DS:=λDe δ=>match δ[i]? with
 |some (some (.own (.ob o c' ns' ts)))=>c'=c/\ns'=ns/\j=ts.length/\Eo δ λr=>De.nx (δ.set i (some (.own (.ob o c ns (ts++[r])))))
 |_=>False
def Ye4 (c:Str)(ns:List Str)(i j:Nat)(g:Int->Int->Int)(E:DE):DS:=λDe δ=>match δ[i]? with
 |some (some (.own (.ob o c' ns' ts)))=>c'=c/\ns'=ns/\match ts[j]? with
  |some (.fz (.int x))=>E δ λd=>match d with
   | .int y=>De.nx (δ.set i (some (.own (.ob o c ns (ts.set j (.fz (.int (g x y))))))))
   |_=>False
  |_=>False
 |_=>False
def Ye5 (c:Str)(ns:List Str)(i j:Nat)(Eo:DO):DS:=λDe δ=>match δ[i]? with
 |some (some (.own (.ob o c' ns' ts)))=>c'=c/\ns'=ns/\match ts[j]? with
  |some (.nl us)=>us.length<1000000/\Eo δ λr=>De.nx (δ.set i (some (.own (.ob o c ns (ts.set j (.nl (us++[r])))))))
  |_=>False
 |_=>False
def Ye2 (c:Str)(ns:List Str)(i j k:Nat):DS:=λDe δ=>match δ[i]? with
 |some (some (.own (.ob o c' ns' ts)))=>c'=c/\ns'=ns/\∃us d,ts[j]?=some (.nl (us++[.fz d]))/\De.nx ((δ.set i (some (.own (.ob o c ns (ts.set j (.nl us)))))).set k (some (.own (.fz d))))
 |_=>False
def Yes (c:Str)(ns:List Str)(i n:Nat)(sp:DMo)(As:DA):DS:=λDe δ=>match δ[i]? with
 |some (some (.own (.ob o c' ns' ts)))=>c'=c/\ns'=ns/\As δ λds=>ds.length+1=n/\sp ts ds λts'=>De.nx (δ.set i (some (.own (.ob o c ns ts'))))
 |_=>False
def Xpa (c:Str)(ns:List Str)(i j:Nat)(sp:DMo):DS:=λDe δ=>match δ[i]? with
 |some (some (.own (.ob o c' ns' ts)))=>c'=c/\ns'=ns/\∃us d,ts[j]?=some (.nl (us++[.fz d]))/\sp (ts.set j (.nl us)) [d] λts'=>De.nx (δ.set i (some (.own (.ob o c ns ts'))))
 |_=>False
def Yds (c:Str)(ns:List Str)(n:Nat)(sp:DSp)(E:DE)(As:DA):DO:=λδ P=>E δ λd=>match d with
 | .obj c' ns' fs=>c'=c/\ns'=ns/\As δ λds=>ds.length+1=n/\sp (.obj c ns fs::ds) λr=>r.lf=true/\P r
 |_=>False
def Yka (c:Str)(ns:List Str)(n:Nat)(sp:DMo)(As:DA):DO:=λδ P=>As δ λds=>ds.length+1=n/\sp [] ds λts=>P (.ob none c ns ts)
def Xj0 (N:List Str)(c:Str)(ns:List Str)(a:Addr)(ts:List OV)(ds:List D):Dst:=some (.own (.ob (some a) c ns ts))::(ds.map (λd=>some (.own (.fz d)))++List.replicate (N.length-(ds.length+1)) none)
section
theorem Xrz {f:Str}:∀{ns:List Str} {vs:List V} {j:Nat},ns.Nodup->ns[j]?=some f->(ns.zip vs).lookup f=vs[j]?
 | [],_,_,_,h=>by simp at h
 |g::ns,[],j,_,_=>by simp
 |g::ns,v::vs,0,nd,h=>by
  simp at h
  subst h
  simp[List.lookup]
 |g :: ns,v::vs,j+1,nd,h=>by
  have h':ns[j]?=some f:=by simpa using h
  obtain⟨n1,n2⟩:=nodup_cons.mp nd
  have hne:(f==g)=false:=by
   rw[beq_eq_false_iff_ne]
   intro z
   exact n1 (by rw[<- z];exact mem_of_getElem? h')
  simp only[zip_cons_cons,List.lookup,hne,getElem?_cons_succ]
  exact Xrz n2 h'
theorem Xha {f:Str}:∀{ns:List Str} {vs:List V},f∉ns->(ns.zip vs).lookup f=none
 | [],_,_=>by simp
 |g::ns,[],_=>by simp
 |g :: ns,v::vs,h=>by
  have hne:(f==g)=false:=by
   rw[beq_eq_false_iff_ne]
   intro z
   exact h (by rw[z];exact mem_cons_self)
  simp only[zip_cons_cons,List.lookup,hne]
  exact Xha λz=>h (mem_cons_of_mem _ z)
theorem Xpf {f:Str}{u:V}:∀{ns:List Str} {vs:List V} {j:Nat},ns.Nodup->ns[j]?=some f->j<vs.length->Xmv f u (ns.zip vs)=ns.zip (vs.set j u)
 | [],_,_,_,h,_=>by simp at h
 |g::ns,[],j,_,_,h=>by simp at h
 |g::ns,v::vs,0,nd,h,_=>by
  simp at h
  subst h
  simp[Xmv]
 |g::ns,v::vs,j+1,nd,h,hl=>by
  have h':ns[j]?=some f:=by simpa using h
  obtain⟨n1,n2⟩:=nodup_cons.mp nd
  have hne:¬ g=f:=λz=>n1 (by rw[z];exact mem_of_getElem? h')
  simp only[zip_cons_cons,Xmv,if_neg hne,set_cons_succ]
  rw[Xpf n2 h' (by simpa using hl)]
theorem Xub {f:Str}{u:V}:∀{ns:List Str} {vs:List V},ns.Nodup->ns[vs.length]?=some f->Xmv f u (ns.zip vs)=ns.zip (vs++[u])
 | [],_,_,h=>by simp at h
 |g::ns,[],nd,h=>by
  simp at h
  subst h
  simp[Xmv]
 |g::ns,v::vs,nd,h=>by
  have h':ns[vs.length]?=some f:=by simpa using h
  obtain⟨n1,n2⟩:=nodup_cons.mp nd
  have hne:¬ g=f:=λz=>n1 (by rw[z];exact mem_of_getElem? h')
  simp only[zip_cons_cons,Xmv,if_neg hne,cons_append]
  rw[Xub n2 h']
theorem Yda {A1 B0 A2 B1:List Addr}(h:(A1++(B0++A2)).Nodup)(h1:B1.Nodup)(h2:∀b∈B1,b∈B0∨b∉A1++(B0++A2)):(A1++(B1++A2)).Nodup:=by
 obtain⟨m1,m2,m3⟩:=nodup_append.mp h
 obtain⟨q1,q2,q3⟩:=nodup_append.mp m2
 refine nodup_append.mpr ⟨m1,nodup_append.mpr ⟨h1,q2,λx hx y hy z=>?_⟩,λx hx y hy z=>?_⟩
 .rcases h2 x hx with y' |y'
  .exact q3 x y' y hy z
  .exact y' (by rw[z];simp[hy])
 .rcases mem_append.mp hy with y' |y'
  .rcases h2 y y' with w |w
   .exact m3 x hx y (by simp[w]) z
   .exact w (by rw[<- z];simp[hx])
  .exact m3 x hx y (by simp[y']) z
end
structure ClsV (K:Frag) (c:Str) (ns:List Str):Prop where
 ex:∃C,nsIn K mainGlobals c=some (some (.ref C))/\Cls K C/\(∀f∈ns,Xkl K C f)
 nd:ns.Nodup
 few:ns.length<1000
structure MetAt (K:Frag) (c m q:Str) (st:Stmt) (f:Addr) (fd:FuncData):Prop where
 fn:Fun K m q st f fd
 cl:∃C,nsIn K mainGlobals c=some (some (.ref C))/\Cls K C/\Meth K C m f
structure CalM (P:Program) (w:World) (K:Frag) (mg:Str->Option Value) (base:Heap) (c m:Str) (k:Nat) (ps:List Str) (sp:Sp):Prop where
 ex:∃C f fd,nsIn K mainGlobals c=some (some (.ref C))/\Cls K C/\Meth K C m f/\FnOk P w K mg base CX0 k f fd ps sp/\Xjv K fd ps []
structure MakAt (K:Frag) (mg:Str->Option Value) (c:Str) (f:Addr):Prop where
 cl:∃C,nsIn K mainGlobals c=some (some (.ref C))/\Mk K C f/\mg c=some (.ref C)
structure CalK (P:Program) (w:World) (K:Frag) (mg:Str->Option Value) (base:Heap) (c:Str) (k:Nat) (ps:List Str) (sp:Sp):Prop where
 ex:∃C f fd,nsIn K mainGlobals c=some (some (.ref C))/\Mk K C f/\mg c=some (.ref C)/\FnOk P w K mg base CX0 k f fd ps sp/\Xjv K fd ps []
def Xoc (K:Frag)(c m:Str)(sp:Sp)(ta:TE)(t:TA):TE:=λY H Q=>∃C,nsIn K mainGlobals c=some (some (.ref C))/\Yd7 C m sp [] E0 ta t Y H Q
def Ycl (K:Frag)(c:Str)(sp:Sp)(t:TA):TE:=λY H Q=>∃C,nsIn K mainGlobals c=some (some (.ref C))/\Yhr C sp [] E0 t Y H Q
section
variable {X:Cx}{c m:Str}{k:Nat}{ps:List Str}{sp:Sp}{o e:Expr}{es:List Expr}{ta:TE}{t:TA}{p pos apos:Pos}
theorem Xic {pl:Sem Bool}(C:CalM X.prog X.w X.K X.mg X.base c m k ps sp)(hr:Room k X.A)(he:PE X o ta)(ha:PA X (e::es) t)
  (hst:starEach (e::es) X.env=(false,eval e X.env)::starEach es X.env:=by rfl) (hpl:(backTo pos (starEach es X.env)).any (·.1)=false:=by rfl)
  (ht:eval (.Call (.Attribute o m apos) (e::es) [] pos) X.env=(do
   let ov <- eval o X.env
   standAt apos.atName
   let (f,first) <- holding [ov] (getMethod ov m pl)
   callWith pos f first (backTo pos (starEach (e::es) X.env)) (backToKw pos (keywordEach [] X.env))):=by rfl):
  PE X (.Call (.Attribute o m apos) (e::es) [] pos) (Xoc X.K c m sp ta t):=by
 intro pins s Y H Q I ⟨C',hC',h⟩
 obtain⟨C,f,fd,hC,cl,hm,F,hb⟩:=C.ex
 rw[hC]at hC'
 cases hC'
 exact Yfk (pl:=pl) he cl hm F hr hb .nil Xx9 ha hst hpl ht pins s Y H Q I h
theorem Xis {pl:Sem Bool}(C:CalM X.prog X.w X.K X.mg X.base c m k ps sp)(hr:Room k X.A)(he:PE X o ta)
  (ht:eval (.Call (.Attribute o m apos) [] [] pos) X.env=(do
   let ov <- eval o X.env
   standAt apos.atName
   let (f,first) <- holding [ov] (getMethod ov m pl)
   callWith pos f first (backTo pos (starEach [] X.env)) (backToKw pos (keywordEach [] X.env))):=by rfl):
  PE X (.Call (.Attribute o m apos) [] [] pos) (Xoc X.K c m sp ta Xqc):=by
 intro pins s Y H Q I ⟨C',hC',h⟩
 obtain⟨C,f,fd,hC,cl,hm,F,hb⟩:=C.ex
 rw[hC]at hC'
 cases hC'
 exact Ya7 (pl:=pl) he cl hm F hr hb .nil Xx9 (ht:=ht) pins s Y H Q I h
theorem Xx5 (C:CalK X.prog X.w X.K X.mg X.base c k ps sp)(hr:Room (k+1) X.A)(hg:Gl X c)(ha:PA X (e::es) t)
  (hdb:(c==("__debug__":Str))=false:=by decide) (he:starEach (e::es) X.env=(false,eval e X.env)::starEach es X.env:=by rfl) (hpl:(backTo pos (starEach es X.env)).any (·.1)=false:=by rfl):
  PE X (.Call (.Name c p) (e::es) [] pos) (Ycl X.K c sp t):=by
 intro pins s Y H Q I ⟨C',hC',h⟩
 obtain⟨C,f,fd,hC,M,hm,F,hb⟩:=C.ex
 rw[hC]at hC'
 cases hC'
 exact Yfl M F hr hg hm hb .nil Xx9 ha hdb he hpl pins s Y H Q I h
end
section
variable {K:Frag}{c f m:Str}{ns:List Str}{i j:Nat}{ta te:TE}{E:DE}{Eo:DO}
theorem Xhq (CV:ClsV K c ns)(hf:ns[j]?=some f)(h:Xgi K ta E):Xgi K (Yht K ta f) (Ym8 c ns j E):=λF0 H0 F H Y δ P Q e w q=>h F0 H0 F H Y δ _ _ e w λd v F1 H1 w1 x1 r1=>by
 try dsimp only at w1
 split at w1
 .rename_i c' ns' ds
  obtain⟨rfl,rfl,x,hx,w1⟩:=w1
  obtain⟨a,C,dx,vs,rfl,h0,h1,hl,h2⟩:=r1
  obtain⟨C',hC',cl,na⟩:=CV.ex
  rw[h0]at hC'
  cases hC'
  obtain⟨u,hu,ru⟩:=h2.get hx
  exact⟨a,C,dx,_,u,rfl,h1,cl,na f (mem_of_getElem? hf),by rw[Xrz CV.nd hf];exact hu,q _ _ F1 H1 w1 x1 ru⟩
 .exact w1.elim
theorem ER.obj {F0 H0 F H H':Hp}{Y:St}{δ:Dst}{A:Nat->List Addr}(e:ER K F0 H0 F H Y δ A){a dx C:Addr}{B B':List Addr}{o:Option Addr}{ts':List OV}{vs':List V}(hv:Y[i]?=some (some (.ref a)))(eA:A i=a::dx::B)
  (h0:nsIn K mainGlobals c=some (some (.ref C))) (ho:∀a',o=some a'->a=a') (h1:H' a=some (.ins C dx (ns.zip vs'))) (h2:H' dx=some (.own a)) (hl:ts'.length<=ns.length) (h3:Xa7 K F H' ts' vs' B') (nd:B'.Nodup)
  (hB:∀b∈B',b∈B∨(F b=none/\H0 b=none/\∀j,b∉A j)) (keep:∀b o,b∉A i->H b=some o->H' b=some o):Xf1 K F0 H0 F H' Y (δ.set i (some (.own (.ob o c ns ts')))):=by
 have hnd:=e.nod i
 rw[eA]at hnd
 obtain⟨n1,n2⟩:=nodup_cons.mp hnd
 obtain⟨n3,n4⟩:=nodup_cons.mp n2
 have inA:∀b,b∈a::dx::B'->b∈A i∨(F b=none/\H0 b=none/\∀j,b∉A j):=λb hb=>by
  rw[eA]
  rcases mem_cons.mp hb with z |z
  .exact .inl (by simp[z])
  .rcases mem_cons.mp z with z |z
   .exact .inl (by simp[z])
   .rcases hB b z with y |y
    .exact .inl (by simp[y])
    .exact .inr y
 have notB:∀b,b∈A i->b∉B->b∉B':=λb hb hn z=>by
  rcases hB b z with y |y
  .exact hn y
  .exact y.2.2 i hb
 refine e.change i hv (t':=.ob o c ns ts') (B:=a::dx::B') ⟨a,C,dx,vs',B',rfl,rfl,h0,ho,h1,h2,hl,h3⟩ ?_ ?_ ?_ keep
 .refine nodup_cons.mpr ⟨λz=>?_,nodup_cons.mpr ⟨λz=>?_,nd⟩⟩
  .rcases mem_cons.mp z with z |z
   .exact n1 (by simp[z])
   .exact notB a (by simp[eA]) (λy=>n1 (by simp[y])) z
  .exact notB dx (by simp[eA]) n3 z
 .intro b hb
  rcases inA b hb with z |z
  .exact ⟨(e.new i b z).1,(e.new i b z).2.1⟩
  .exact ⟨z.1,z.2.1⟩
 .intro j hj b hb z
  rcases inA b hb with y |y
  .exact e.dis j i b hj z y
  .exact y.2.2 j z
theorem Xxe (CV:ClsV K c ns)(hf:ns[j]?=some f)(h:Xjx K te Eo):Xeg K (Yk8 K (Xnr i) te f) (Ye1 c ns i j Eo):=λF0 H0 F H Y δ De En e l w=>by
 obtain⟨A,e⟩:=e
 unfold Ye1 at w
 split at w
 .rename_i o c' ns' ts hs
  obtain⟨rfl,rfl,hj,w⟩:=w
  obtain⟨v,hv,a,C,dx,vs,B,rfl,eA,h0,ho,h1,h2,hl,h3⟩:=e.own i _ hs
  obtain⟨C',hC',cl,na⟩:=CV.ex
  rw[h0]at hC'
  cases hC'
  refine h F0 H0 F H Y δ _ _ ⟨A,e⟩ w λr u F1 H1 p x1 n=>?_
  obtain⟨C0,c1,c2,c3⟩:=n
  have e1:=e.on x1
  have hlen:=h3.length
  refine⟨_,hv,a,C,dx,_,rfl,x1.hh _ _ h1,cl,na f (mem_of_getElem? hf),?_,?_⟩
  .have:=CV.few
   rw[length_zip];omega
  rw[Xpf CV.nd hf (by omega)]
  have h31:Xa7 K F1 H1 ts vs B:=h3.frame x1.ff λb _ xs z=>x1.hh _ _ z
  obtain⟨v0,A1,B0,A2,f1,rfl,f3,f4⟩:=h31.focus (getElem?_eq_getElem hj)
  have hnd:=e.nod i
  rw[eA]at hnd
  obtain⟨n1,n2⟩:=nodup_cons.mp hnd
  obtain⟨n3,n4⟩:=nodup_cons.mp n2
  have hCA':∀j b,b∈C0->b∉A j:=λj b hb z=>by
   obtain⟨_,_,xs,q,_⟩:=e.new j b z
   rw[(c3 b hb).1]at q;cases q
  have hCA:=hCA' i
  have off:∀b,b∈A1++(B0++A2)->b≠a:=λb hb z=>n1 (by rw[<- z];exact mem_cons_of_mem _ hb)
  have sub:∀b,b∈A1++A2->b∈A1++(B0++A2):=λb hb=>by
   rcases mem_append.mp hb with z |z<;>simp[z]
  have f4':=f4 F1 (upd H1 a (.ins C dx (ns'.zip (vs.set j u)))) r u C0 (Xbi.refl _) (λb hb xs z=>Xav (off b (sub b hb)) z) (c1.frame (Xbi.refl _) λb hb xs z=>Xav (λy=>hCA b hb (by rw[eA,y];simp)) z)
  refine l.nx F1 _ Y _ (e1.obj hv eA h0 ho Xay (Xav (λz=>n1 (by rw[<- z];simp)) (x1.hh _ _ h2)) (by rw[length_set];exact hl) f4' (Yda n4 c2 λb hb=>.inr λz=>hCA b hb (by rw[eA];simp only[mem_cons];exact .inr (.inr z))) (λb hb=>?_) λb o' hb z=>Xav (λy=>hb (by rw[eA,y];simp)) z) p
  rcases mem_append.mp hb with z |z
  .exact .inl (by simp[z])
  .rcases mem_append.mp z with z |z
   .exact .inr ⟨(c3 b z).2,e.ext.hh.free (c3 b z).1,λj=>hCA' j b z⟩
   .exact .inl (by simp[z])
 .exact w.elim
theorem Xmp (CV:ClsV K c ns)(hf:ns[j]?=some f)(h:Xjx K te Eo):Xeg K (Yk8 K (Xnr i) te f) (Ye3 c ns i j Eo):=λF0 H0 F H Y δ De En e l w=>by
 obtain⟨A,e⟩:=e
 unfold Ye3 at w
 split at w
 .rename_i o c' ns' ts hs
  obtain⟨rfl,rfl,hj,w⟩:=w
  obtain⟨v,hv,a,C,dx,vs,B,rfl,eA,h0,ho,h1,h2,hl,h3⟩:=e.own i _ hs
  obtain⟨C',hC',cl,na⟩:=CV.ex
  rw[h0]at hC'
  cases hC'
  refine h F0 H0 F H Y δ _ _ ⟨A,e⟩ w λr u F1 H1 p x1 n=>?_
  obtain⟨C0,c1,c2,c3⟩:=n
  have e1:=e.on x1
  have hlen:=h3.length
  refine⟨_,hv,a,C,dx,_,rfl,x1.hh _ _ h1,cl,na f (mem_of_getElem? hf),?_,?_⟩
  .have:=CV.few
   rw[length_zip];omega
  have hf':=hf
  rw[hj,hlen]at hf'
  rw[Xub CV.nd hf']
  have h31:Xa7 K F1 H1 ts vs B:=h3.frame x1.ff λb _ xs z=>x1.hh _ _ z
  have hnd:=e.nod i
  rw[eA]at hnd
  obtain⟨n1,n2⟩:=nodup_cons.mp hnd
  obtain⟨n3,n4⟩:=nodup_cons.mp n2
  have hCA':∀j b,b∈C0->b∉A j:=λj b hb z=>by
   obtain⟨_,_,xs,q,_⟩:=e.new j b z
   rw[(c3 b hb).1]at q;cases q
  have hCA:=hCA' i
  have off:∀b,b∈B->b≠a:=λb hb z=>n1 (by rw[<- z];exact mem_cons_of_mem _ hb)
  have hlt:=(List.getElem?_eq_some_iff.mp hf').1
  have f4':Xa7 K F1 (upd H1 a (.ins C dx (ns'.zip (vs++[u])))) (ts++[r]) (vs++[u]) (B++C0):=Xa7.append (h31.frame (Xbi.refl _) λb hb xs z=>Xav (off b hb) z) (Xa7.one (c1.frame (Xbi.refl _) λb hb xs z=>Xav (λy=>hCA b hb (by rw[eA,y];simp)) z))
  refine l.nx F1 _ Y _ (e1.obj hv eA h0 ho Xay (Xav (λz=>n1 (by rw[<- z];simp)) (x1.hh _ _ h2)) (by rw[length_append,length_singleton];omega) f4' (nodup_append.mpr ⟨n4,c2,λx hx y hy z=>hCA y hy (by rw[eA,<- z];simp[hx])⟩) (λb hb=>?_) λb o' hb z=>Xav (λy=>hb (by rw[eA,y];simp)) z) p
  rcases mem_append.mp hb with z |z
  .exact .inl z
  .exact .inr ⟨(c3 b z).2,e.ext.hh.free (c3 b z).1,λj=>hCA' j b z⟩
 .exact w.elim
theorem Xxg {g:Int->Int->Int}{rd:V->V->Hp->VK->Prop}(CV:ClsV K c ns)(hf:ns[j]?=some f)(hrd:∀x y H Q,Q (.int (g x y)) H->rd (.int x) (.int y) H Q)(h:Xgi K te E):Xeg K (Xxm K (Xnr i) te rd f) (Ye4 c ns i j g E):=λF0 H0 F H Y δ De En e l w=>by
 obtain⟨A,e⟩:=e
 unfold Ye4 at w
 split at w
 .rename_i o c' ns' ts hs
  obtain⟨rfl,rfl,w⟩:=w
  obtain⟨x,hx,w⟩:∃x,ts[j]?=some (.fz (.int x))/\E δ λd=>match d with
   | .int y=>De.nx (δ.set i (some (.own (.ob o c' ns' (ts.set j (.fz (.int (g x y))))))))
   |_=>False:=by
   split at w
   .exact ⟨_,by assumption,w⟩
   .exact w.elim
  obtain⟨v,hv,a,C,dx,vs,B,rfl,eA,h0,ho,h1,h2,hl,h3⟩:=e.own i _ hs
  obtain⟨C',hC',cl,na⟩:=CV.ex
  rw[h0]at hC'
  cases hC'
  have hlen:=h3.length
  obtain⟨v0,A1,B0,A2,f1,eB,⟨f3,f3'⟩,f4⟩:=h3.focus hx
  subst f3
  cases (show v0=V.int x from f3')
  refine⟨_,hv,a,C,dx,_,_,rfl,h1,cl,na f (mem_of_getElem? hf),(by rw[Xrz CV.nd hf];exact f1),?_⟩
  refine h F0 H0 F H Y δ _ _ ⟨A,e⟩ w λd u F1 H1 p x1 ru=>?_
  try dsimp only at p
  split at p
  .rename_i y
   cases (show u=V.int y from ru)
   have e1:=e.on x1
   refine hrd _ _ _ _ ⟨dx,_,x1.hh _ _ h1,?_,?_⟩
   .have:=CV.few
    rw[length_zip];omega
   rw[Xpf CV.nd hf (List.getElem?_eq_some_iff.mp f1).1]
   have hnd:=e.nod i
   rw[eA]at hnd
   obtain⟨n1,n2⟩:=nodup_cons.mp hnd
   obtain⟨n3,n4⟩:=nodup_cons.mp n2
   subst eB
   have f4':=f4 F1 (upd H1 a (.ins C dx (ns'.zip (vs.set j (.int (g x y)))))) (.fz (.int (g x y))) (.int (g x y)) [] x1.ff (λb hb xs z=>Xav (λq=>n1 (by rw[<- q];exact mem_cons_of_mem _ (by simpa using hb))) (x1.hh _ _ z)) ⟨rfl,rfl⟩
   exact l.nx F1 _ Y _ (e1.obj hv eA h0 ho Xay (Xav (λz=>n1 (by rw[<- z];simp)) (x1.hh _ _ h2)) (by rw[length_set];exact hl) f4' n4 (λb hb=>.inl hb) λb o' hb z=>Xav (λy=>hb (by rw[eA,y];simp)) z) p
  .exact p.elim
 .exact w.elim
theorem Xkr (CV:ClsV K c ns)(hf:ns[j]?=some f)(h:Xjx K te Eo):Xeg K (Xqd (tBM K "list" rAppend (Yht K (Xnr i) f) (Xiz te Xqc))) (Ye5 c ns i j Eo):=λF0 H0 F H Y δ De En e l w=>by
 obtain⟨A,e⟩:=e
 unfold Ye5 at w
 split at w
 .rename_i o c' ns' ts hs
  obtain⟨rfl,rfl,w⟩:=w
  obtain⟨us,hx,hus,w⟩:∃us,ts[j]?=some (.nl us)/\us.length<1000000/\Eo δ λr=>De.nx (δ.set i (some (.own (.ob o c' ns' (ts.set j (.nl (us++[r]))))))):=by
   split at w
   .exact ⟨_,by assumption,w⟩
   .exact w.elim
  obtain⟨v,hv,a,C,dx,vs,B,rfl,eA,h0,ho,h1,h2,hl,h3⟩:=e.own i _ hs
  obtain⟨C',hC',cl,na⟩:=CV.ex
  rw[h0]at hC'
  cases hC'
  obtain⟨v0,A1,B0,A2,f1,rfl,f3,f4⟩:=h3.focus hx
  obtain⟨b0,ws,B1,rfl,rfl,hc,hws⟩:=f3
  refine⟨_,hv,a,C,dx,_,.ref b0,rfl,h1,cl,na f (mem_of_getElem? hf),(by rw[Xrz CV.nd hf];exact f1),.inl ⟨rfl,_,SqL.of hc⟩,?_⟩
  refine h F0 H0 F H Y δ _ _ ⟨A,e⟩ w λr u F1 H1 p x1 n=>?_
  obtain⟨C0,c1,c2,c3⟩:=n
  have e1:=e.on x1
  have hwl:=hws.length
  refine⟨b0,ws,u,rfl,rfl,x1.hh _ _ hc,Xwx (by omega),?_⟩
  have hnd:=e.nod i
  rw[eA]at hnd
  obtain⟨n1,n2⟩:=nodup_cons.mp hnd
  obtain⟨n3,n4⟩:=nodup_cons.mp n2
  have hCA':∀j b,b∈C0->b∉A j:=λj b hb z=>by
   obtain⟨_,_,xs,q,_⟩:=e.new j b z
   rw[(c3 b hb).1]at q;cases q
  have hbA:b0∈A i:=by rw[eA];simp
  obtain⟨m1,m2,m3⟩:=nodup_append.mp n4
  obtain⟨q1,q2,q3⟩:=nodup_append.mp m2
  obtain⟨s1,s2⟩:=nodup_cons.mp q1
  have off:∀b∈A1++A2,b≠b0:=λb hb z=>by
   subst z
   rcases mem_append.mp hb with y |y
   .exact m3 b y b (by simp) rfl
   .exact q3 b (by simp) b y rfl
  have hab:a≠b0:=λz=>n1 (by rw[z];simp)
  have hdb:dx≠b0:=λz=>n3 (by rw[z];simp)
  have f4':=f4 F1 (upd H1 b0 (.lst (ws++[u]))) (.nl (us++[r])) (.ref b0) (b0::(B1++C0)) x1.ff (λb hb xs z=>Xav (off b hb) (x1.hh _ _ z))
   ⟨b0,ws++[u],B1++C0,rfl,rfl,Xay,Xa7.append (hws.frame x1.ff λb hb xs z=>Xav (λy=>s1 (by rw[<- y];exact hb)) (x1.hh _ _ z)) (Xa7.one (c1.frame (Xbi.refl _) λb hb xs z=>Xav (λy=>hCA' i b hb (by rw[y];exact hbA)) z))⟩
  rw[Xgw f1]at f4'
  refine l.nx F1 _ Y _ (e1.obj hv eA h0 ho (Xav hab (x1.hh _ _ h1)) (Xav hdb (x1.hh _ _ h2)) (by rw[length_set];exact hl) f4' (Yda n4 ?_ λb hb=>?_) (λb hb=>?_) λb o' hb z=>Xav (λy=>hb (by rw[y];exact hbA)) z) p
  .refine nodup_cons.mpr ⟨λz=>?_,nodup_append.mpr ⟨s2,c2,λx hx y hy z=>hCA' i y hy (by rw[eA,<- z];simp[hx])⟩⟩
   rcases mem_append.mp z with y |y
   .exact s1 y
   .exact hCA' i b0 y hbA
  .rcases mem_cons.mp hb with y |y
   .exact .inl (by simp[y])
   .rcases mem_append.mp y with y |y
    .exact .inl (by simp[y])
    .exact .inr λz=>hCA' i b y (by rw[eA];simp only[mem_cons];exact .inr (.inr z))
  .simp only[mem_append,mem_cons]at hb
   rcases hb with z | (z |z |z) |z
   .exact .inl (by simp[z])
   .exact .inl (by simp[z])
   .exact .inl (by simp[z])
   .exact .inr ⟨(c3 b z).2,e.ext.hh.free (c3 b z).1,λj=>hCA' j b z⟩
   .exact .inl (by simp[z])
 .exact w.elim
theorem ER.fpop {F0 H0 F H:Hp}{Y:St}{δ:Dst}{A:Nat->List Addr}{o:Option Addr}{ts us:List OV}{d:D}(e:ER K F0 H0 F H Y δ A)(CV:ClsV K c ns)(hf:ns[j]?=some f)(hs:δ[i]?=some (some (.own (.ob o c ns ts))))(hx:ts[j]?=some (.nl (us++[.fz d]))):
  ∃a b0 ws y C dx fs,Y[i]?=some (some (.ref a))/\H a=some (.ins C dx fs)/\nsIn K mainGlobals c=some (some (.ref C))/\Cls K C/\Xkl K C f/\fs.lookup f=some (.ref b0)/\H b0=some (.lst ws)/\ws[ws.length-1]?=some y/\Rep K F d y/\(upd H b0 (.lst ws.dropLast)) a=some (.ins C dx fs)/\
   Xf1 K F0 H0 F (upd H b0 (.lst ws.dropLast)) Y (δ.set i (some (.own (.ob o c ns (ts.set j (.nl us)))))):=by
 obtain⟨v,hv,a,C,dx,vs,B,rfl,eA,h0,ho,h1,h2,hl,h3⟩:=e.own i _ hs
 obtain⟨C',hC',cl,na⟩:=CV.ex
 rw[h0]at hC'
 cases hC'
 obtain⟨v0,A1,B0,A2,f1,rfl,f3,f4⟩:=h3.focus hx
 obtain⟨b0,ws,B1,rfl,rfl,hc,hws⟩:=f3
 obtain⟨ws1,y,rfl,B2,hw1,hwy,eB⟩:∃ws1 y,ws=ws1++[y]/\∃B2,Xa7 K F H us ws1 B2/\Rep K F d y/\B1=B2:=by
  clear f4 h3 hx eA hc f1
  induction us generalizing ws B1 with
  |nil=>
   obtain⟨v,r,B,C,rfl,rfl,g1,g2,g3⟩:=hws
   subst g2 g3
   exact⟨[],v,rfl,[],⟨rfl,rfl⟩,g1.2,by rw[g1.1];rfl⟩
  |cons t us ih=>
   obtain⟨v,r,B,C,rfl,rfl,g1,g2⟩:=hws
   obtain⟨ws1,y,rfl,B2,k1,k2,rfl⟩:=ih _ _ g2
   exact⟨v::ws1,y,rfl,B++C,⟨v,ws1,B,C,rfl,rfl,g1,k1⟩,k2,rfl⟩
 subst eB
 have hnd:=e.nod i
 rw[eA]at hnd
 obtain⟨n1,n2⟩:=nodup_cons.mp hnd
 obtain⟨n3,n4⟩:=nodup_cons.mp n2
 have hbA:b0∈A i:=by rw[eA];simp
 obtain⟨m1,m2,m3⟩:=nodup_append.mp n4
 obtain⟨q1,q2,q3⟩:=nodup_append.mp m2
 obtain⟨s1,s2⟩:=nodup_cons.mp q1
 have off:∀b∈A1++A2,b≠b0:=λb hb z=>by
  subst z
  rcases mem_append.mp hb with y |y
  .exact m3 b y b (by simp) rfl
  .exact q3 b (by simp) b y rfl
 have hab:a≠b0:=λz=>n1 (by rw[z];simp)
 have hdb:dx≠b0:=λz=>n3 (by rw[z];simp)
 have edl:(ws1++[y]).dropLast=ws1:=by simp
 have f4':=f4 F (upd H b0 (.lst (ws1++[y]).dropLast)) (.nl us) (.ref b0) (b0::B1) (Xbi.refl _) (λb hb xs z=>Xav (off b hb) z) ⟨b0,(ws1++[y]).dropLast,B1,rfl,rfl,Xay,by
  rw[edl]
  exact hw1.frame (Xbi.refl _) λb hb xs z=>Xav (λy=>s1 (by rw[<- y];exact hb)) z⟩
 rw[Xgw f1]at f4'
 refine⟨a,b0,ws1++[y],y,C,dx,_,hv,h1,h0,cl,na f (mem_of_getElem? hf),(by rw[Xrz CV.nd hf];exact f1),hc,by simp,hwy,Xav hab h1,?_⟩
 exact e.obj hv eA h0 ho (Xav hab h1) (Xav hdb h2) (by rw[length_set];exact hl) f4' n4 (λb hb=>.inl hb) λb o' hb z=>Xav (λy=>hb (by rw[y];exact hbA)) z
theorem Yen {k:Nat}(CV:ClsV K c ns)(hf:ns[j]?=some f):Xeg K (Yam (Ykt K "list" rPop (Yht K (Xnr i) f)) (Xtg k)) (Ye2 c ns i j k):=λF0 H0 F H Y δ De En e l w=>by
 obtain⟨A,e⟩:=e
 unfold Ye2 at w
 split at w
 .rename_i o c' ns' ts hs
  obtain⟨rfl,rfl,us,d,hx,w⟩:=w
  obtain⟨a,b0,ws,y,C,dx,fs,hv,h1,h0,cl,na,hl,hc,hy,ry,_,e'⟩:=e.fpop CV hf hs hx
  refine⟨_,hv,a,C,dx,fs,.ref b0,rfl,h1,cl,na,hl,.inl ⟨rfl,_,SqL.of hc⟩,b0,ws,y,rfl,rfl,hc,hy,?_⟩
  exact l.nx F _ _ _ (e'.put (Ext.refl e'.ext.fh) k (.fz ry)) w
 .exact w.elim
def spM (K:Frag)(n:Nat)(c:Str)(ns:List Str)(sp:DMo):Sp:=spL n λvs H Q=>∃F a C dx ts vs0 B Xi0 ds P,vs=V.ref a::Xi0/\nsIn K mainGlobals c=some (some (.ref C))/\Xbi F H/\H a=some (.ins C dx (ns.zip vs0))/\H dx=some (.own a)/\ts.length<=ns.length/\Xa7 K F H ts vs0 B/\
 (a::dx::B).Nodup/\(∀b∈a::dx::B,F b=none)/\Xb4 K F ds Xi0/\sp ts ds P/\
 ∀ts' F' H' dx' vs' B',P ts'->Xbi F F'->Xbi F' H'->(∀b o,b∉a::dx::B->H b=some o->H' b=some o)->(∀b o,F b=none->H b=some o->imm o=false->b∉a::dx::B->F' b=none)->H' a=some (.ins C dx' (ns.zip vs'))->H' dx'=some (.own a)->ts'.length<=ns.length->Xa7 K F' H' ts' vs' B'->
  (a::dx'::B').Nodup->(∀b∈a::dx'::B',F' b=none/\(b∈a::dx::B∨H b=none))->Q .non H'
theorem Ycp {F0 H0 F H:Hp}{Y:St}{δ:Dst}{De:DEnds}{En:Ends}{n:Nat}{sp:DMo}{o:Option Addr}{ts:List OV}{ds:List D}{us:List V}{p:Addr}(e:Xf1 K F0 H0 F H Y δ)(hs:δ[i]?=some (some (.own (.ob o c ns ts))))(hσ:Y[i]?=some (some (.ref p)))(l:Lk K F0 H0 De En)(hn:ds.length+1=n)
  (r:Xb4 K F ds us) (hsp:sp ts ds λts'=>De.nx (δ.set i (some (.own (.ob o c ns ts'))))):spM K n c ns sp (.ref p::us) H (λ_ H2=>En.nx Y H2) E0:=by
 obtain⟨A,e⟩:=e
 obtain⟨v,hv,a,C,dx,vs,B,rfl,eA,h0,ho,h1,h2,hl,h3⟩:=e.own i _ hs
 rw[hσ]at hv
 cases hv
 have hnd:=e.nod i
 rw[eA]at hnd
 have hlt:i<δ.length:=(List.getElem?_eq_some_iff.mp hs).1
 refine⟨by rw[length_cons,<- r.length];exact hn,F,p,C,dx,ts,vs,B,us,ds,_,rfl,h0,e.ext.fh,h1,h2,hl,h3,hnd,λb hb=>(e.new i b (by rw[eA];exact hb)).1,r,hsp,?_⟩
 intro ts' F' H' dx' vs' B' pt sF sH keep nofz hp' hd' hl' hB' nd' nw'
 refine l.nx F' H' Y _ ⟨λj=>if j=i then p::dx'::B' else A j,?_⟩ pt
 refine⟨by simp[e.len],⟨e.ext.ff.trans sF,λb o h=>?_,sH,λb o h1 h2 h3=>?_⟩,λj t hj=>?_,λj d hj=>?_,λj=>?_,λj k b hjk h1 h2=>?_,λj b hb=>?_⟩
 .exact keep b o (λz=>by rw[(e.new i b (by rw[eA];exact z)).2.1]at h;cases h) (e.ext.hh _ _ h)
 .exact nofz b o (e.ext.no b o h1 h2 h3) (e.ext.hh _ _ h2) h3 (λz=>by rw[(e.new i b (by rw[eA];exact z)).2.1]at h2;cases h2)
 .try dsimp only
  by_cases z:j=i
  .subst z
   rw[if_pos rfl]
   rw[getElem?_set_self hlt]at hj
   cases hj
   exact⟨_,hσ,p,C,dx',vs',B',rfl,rfl,h0,ho,hp',hd',hl',hB'⟩
  .rw [if_neg z]
   rw[getElem?_set_ne (Ne.symm z)]at hj
   obtain⟨u,h1,h2⟩:=e.own j t hj
   exact⟨u,h1,h2.frame sF λb hb xs q=>keep b _ (λy=>e.dis j i b z hb (by rw[eA];exact y)) q⟩
 .by_cases z:j=i
  .subst z
   rw[getElem?_set_self hlt]at hj
   cases hj
  .rw [getElem?_set_ne (Ne.symm z)]at hj
   exact e.bw j d hj
 .try dsimp only
  split
  .exact nd'
  .exact e.nod j
 .try dsimp only at h1 h2
  have key:∀k,k≠i->b∈p::dx'::B'->b∈A k->False:=λk hk z1 z2=>by
   rcases (nw' b z1).2 with y |y
   .exact e.dis k i b hk z2 (by rw[eA];exact y)
   .obtain ⟨_,_,xs,q,_⟩:=e.new k b z2
    rw[y]at q;cases q
  split at h1
  .split at h2
   .omega
   .rename_i z1 z2
    exact key k z2 h1 h2
  .split at h2
   .rename_i z1 z2
    exact key j z1 h2 h1
   .exact e.dis j k b hjk h1 h2
 .try dsimp only at hb
  split at hb
  .have hh:H0 b=none:=by
    rcases (nw' b hb).2 with y |y
    .exact (e.new i b (by rw[eA];exact y)).2.1
    .exact e.ext.hh.free y
   refine⟨(nw' b hb).1,hh,?_⟩
   rcases mem_cons.mp hb with y |y
   .rw [y];exact⟨_,hp',rfl⟩
   .rcases mem_cons.mp y with y |y
    .rw [y];exact⟨_,hd',rfl⟩
    .exact hB'.isl b y
  .rename_i z
   obtain⟨h1,h2,xs,h3,himm⟩:=e.new j b hb
   have hni:b∉p::dx::B:=λy=>e.dis j i b z hb (by rw[eA];exact y)
   exact⟨nofz b _ h1 h3 himm hni,h2,xs,keep b _ hni h3,himm⟩
theorem Xg3 {n:Nat}{sp:DMo}{a:TA}{As:DA}(CV:ClsV K c ns)(hm:m∉ns)(ha:Xk7 K a As):Xeg K (Xqd (Xoc K c m (spM K n c ns sp) (Xnr i) a)) (Yes c ns i n sp As):=λF0 H0 F H Y δ De En e l w=>by
 unfold Yes at w
 split at w
 .rename_i o c' ns' ts hs
  obtain⟨rfl,rfl,w⟩:=w
  obtain⟨A,e⟩:=e
  obtain⟨v,hv,p,C,dx,vs,B,rfl,eA,h0,ho,h1,h2,hl,h3⟩:=e.own i _ hs
  refine⟨C,h0,_,hv,p,dx,_,rfl,h1,Xha hm,?_⟩
  refine ha F0 H0 F H Y δ _ _ ⟨A,e⟩ w λds us F1 H1 w1 x1 r1=>?_
  show spM K n c' ns' sp (V.ref p::(us++[])) H1 (λ_ H2=>En.nx Y H2) E0
  rw[append_nil]
  exact Ycp ⟨A,e.on x1⟩ hs hv l w1.1 r1 w1.2
 .exact w.elim
theorem Xvh {sp:DMo}(CV:ClsV K c ns)(hf:ns[j]?=some f)(hm:m∉ns):Xeg K (Xqd (Xoc K c m (spM K 2 c ns sp) (Xnr i) (Xiz (Ykt K "list" rPop (Yht K (Xnr i) f)) Xqc))) (Xpa c ns i j sp):=λF0 H0 F H Y δ De En e l w=>by
 unfold Xpa at w
 split at w
 .rename_i o c' ns' ts hs
  obtain⟨rfl,rfl,us,d,hx,w⟩:=w
  obtain⟨A,e⟩:=e
  obtain⟨v,hv',p,C',dx',vs,B,rfl,eA,h0',ho,h1',h2',hl',h3⟩:=e.own i _ hs
  obtain⟨a,b0,ws,y,C,dx,fs,hv,h1,h0,cl,na,hl,hc,hy,ry,h1b,e'⟩:=e.fpop CV hf hs hx
  rw[hv']at hv
  cases hv
  refine⟨C',h0',_,hv',p,dx',_,rfl,h1',Xha hm,?_⟩
  refine⟨_,hv',p,C,dx,fs,.ref b0,rfl,h1,cl,na,hl,.inl ⟨rfl,_,SqL.of hc⟩,b0,ws,y,rfl,rfl,hc,hy,?_⟩
  show spM K 2 c' ns' sp (V.ref p::([y]++[])) _ (λ_ H2=>En.nx Y H2) E0
  have hlt:i<δ.length:=(List.getElem?_eq_some_iff.mp hs).1
  exact Ycp (δ:=δ.set i (some (.own (.ob o c' ns' (ts.set j (.nl us)))))) e' (getElem?_set_self hlt) hv' l (ds:=[d]) rfl (show Xb4 K F [d] [y] from⟨y,[],rfl,ry,rfl⟩) (by simpa only[List.set_set] using w)
 .exact w.elim
theorem Xlz {n:Nat}{sp:DSp}{a:TA}{As:DA}(CV:ClsV K c ns)(hm:m∉ns)(h:Xgi K te E)(ha:Xn8 K a As):Xjx K (Xoc K c m (spV K n sp) te a) (Yds c ns n sp E As):=λF0 H0 F H Y δ P Q e w q=>by
 have key:(∃C,nsIn K mainGlobals c=some (some (.ref C)))->Xoc K c m (spV K n sp) te a Y H Q:=λ⟨C,hC⟩=>by
  refine⟨C,hC,?_⟩
  refine h F0 H0 F H Y δ _ _ e w λd v F1 H1 w1 x1 r1=>?_
  try dsimp only at w1
  split at w1
  .rename_i c' ns' fs
   obtain⟨rfl,rfl,w1⟩:=w1
   have r1':=r1
   obtain⟨p,C',dx,vs,rfl,h0,h1,hl,h2⟩:=r1
   rw[hC]at h0
   cases h0
   refine⟨p,dx,_,rfl,h1,Xha hm,?_⟩
   refine ha F0 H0 F1 H1 Y δ _ _ (e.on x1) w1 λds us F2 H2 w2 x2 r2=>?_
   show spV K n sp (V.ref p::(us++[])) H2 Q E0
   rw[append_nil]
   have x12:=x1.trans x2
   refine⟨by rw[length_cons,<- r2.length];exact w2.1,H2,.obj c' ns' fs::ds,_,Xbi.refl _,⟨.ref p,us,rfl,r1'.mono x2.hh,r2⟩,w2.2,λr v F' H' p x' r'=>?_⟩
   have s1:Xbi F2 F':=x2.fh.trans x'.ff
   have x3:=Xhe s1
   obtain⟨A,a1,a2,a3⟩:=r'
   refine q r v (Xti F2 F') H' p.2 (x12.trans ⟨x3.ff,x'.hh,x3.fh.trans x'.fh,λb o z1 z2 z3=>?_⟩) ⟨A,a1.lf s1 p.1,a2,λb hb=>⟨x12.hh.free (a3 b hb).1,x3.fh.free (a3 b hb).2⟩⟩
   exact x3.no b o z1 (x'.ff _ _ z2) z3
  .exact w1.elim
 exact key ⟨_,CV.ex.choose_spec.1⟩
theorem Xxj {n:Nat}{sp:DMo}{a:TA}{As:DA}(CV:ClsV K c ns)(ha:Xk7 K a As):Xjx K (Ycl K c (spM K n c ns sp) a) (Yka c ns n sp As):=λF0 H0 F H Y δ P Q e w q=>by
 obtain⟨C,hC,_⟩:=CV.ex
 refine⟨C,hC,ha F0 H0 F H Y δ _ _ e w λds us F1 H1 w1 x1 r1=>λx dx hx hd hne=>?_⟩
 show spM K n c ns sp (V.ref x::(us++[])) _ _ E0
 rw[append_nil]
 have s0:Xbi H1 (upd (upd H1 dx (.own x)) x (.ins C dx [])):=λb o z=>Xav (λy=>by rw[y,hx]at z;cases z) (Xav (λy=>by rw[y,hd]at z;cases z) z)
 refine⟨by rw[length_cons,<- r1.length];exact w1.1,F1,x,C,dx,[],[],[],us,ds,_,rfl,hC,x1.fh.trans s0,(by rw[List.zip_nil_right];exact Xay),Xav hne Xay,zero_le _,⟨rfl,rfl⟩,?_,λb hb=>?_,r1,w1.2,?_⟩
 .simp only[nodup_cons,mem_cons,not_mem_nil,or_false,not_false_eq_true,nodup_nil,and_true]
  exact λz=>hne z.symm
 .rcases mem_cons.mp hb with z |z
  .rw [z];exact x1.fh.free hx
  .rw [mem_singleton.mp z];exact x1.fh.free hd
 intro ts' F' H' dx' vs' B' pt sF sH keep nofz hp' hd' hl' hB' nd' nw'
 have s1:∀b o,H1 b=some o->b∉x::dx::([]:List Addr):=λb o z y=>by
  rcases mem_cons.mp y with y |y
  .rw [y,hx]at z;cases z
  .rw [mem_singleton.mp y,hd]at z;cases z
 refine⟨rfl,q _ _ F' H' pt (x1.trans ⟨sF,λb o z=>keep b o (s1 b o z) (s0 _ _ z),sH,λb o z1 z2 z3=>nofz b o z1 (s0 _ _ z2) z3 (s1 b o z2)⟩) ⟨x::dx'::B',⟨x,C,dx',vs',B',rfl,rfl,hC,(λ_ z=>by cases z),hp',hd',hl',hB'⟩,nd',λb hb=>⟨?_,(nw' b hb).1⟩⟩⟩
 rcases (nw' b hb).2 with y |y
 .rcases mem_cons.mp y with y |y
  .rw [y];exact x1.hh.free hx
  .rw [mem_singleton.mp y];exact x1.hh.free hd
 .exact x1.hh.free (s0.free y)
end
section
variable {P:Program}{w:World}{K:Frag}{mg:Str->Option Value}{base:Heap}{c m q:Str}{ns:List Str}{st:Stmt}{f:Addr}{fd:FuncData}{N ps:List Str}{k n:Nat}
theorem Yc8 {sp:DMo}(Fn:Fun K m q st f fd)(S:FnScope N ps (Xac st))(hn:n=ps.length)
  (hbody:∀(cdv:Value) (A:Around) (outer:List Env) (s:Shared) (H:Hp) (E:XK),Room k (A.deeper (envOfC q (Xac st) s.heap.objs.size f cdv))->
   ∃t T,PSs (Xn6 CX0 P w K mg base N q (Xac st) f cdv A outer s H E).nox (Xan st) t/\Xeg K t T/\∀(a:Addr) ts ds Pr,sp ts ds Pr->T {nx:=λδ=>∃ts',δ[0]?=some (some (.own (.ob (some a) c ns ts')))/\Pr ts',rt:=λ_=>False} (Xj0 N c ns a ts ds)):
  FnOk P w K mg base CX0 (k+1) f fd ps (spM K n c ns sp):=
 Fn.ok S (λvs H Q E h=>by rw[<- hn];exact h.1) λcdv A outer s H vs Q E hr h=>by
  obtain⟨_,F,a,C,dx,ts,vs0,B,Xi0,ds,Pr,rfl,hC,hs,ha,hd,hlen,hB,hnd,hnf,hr',hsp,hq⟩:=h
  obtain⟨t,T,h1,h2,h3⟩:=hbody cdv A outer s H E hr
  have hl:=hr'.length
  have er : ER K F (λb=>if b∈a::dx::B then none else H b) F H (Xe4 N (V.ref a::Xi0)) (Xj0 N c ns a ts ds) (λj=>if j=0 then a::dx::B else []):=by
   refine⟨by simp[Xe4,Xj0,hl],⟨Xbi.refl _,λb o z=>?_,hs,λ_ _ z _ _=>z⟩,λi t hi=>?_,λi d hi=>?_,λj=>?_,λj k b hjk y1 y2=>?_,λj b hb=>?_⟩
   .try dsimp only at z
    split at z
    .cases z
    .exact z
   .unfold Xj0 at hi
    cases i with
    |zero=>
     simp at hi
     subst hi
     exact⟨.ref a,rfl,a,C,dx,vs0,B,rfl,rfl,hC,(λ_ z=>Option.some.inj z),ha,hd,hlen,hB⟩
    |succ i=>
     rw[getElem?_cons_succ]at hi
     try dsimp only
     rw[if_neg (by omega)]
     by_cases z:i<ds.length
     .rw [getElem?_append_left (by simpa using z),getElem?_map,getElem?_eq_getElem z]at hi
      simp at hi
      subst hi
      obtain⟨v,g1,g2⟩:=hr'.get (getElem?_eq_getElem z)
      refine⟨v,?_,rfl,g2⟩
      unfold Xe4
      rw[map_cons,cons_append,getElem?_cons_succ,getElem?_append_left (by simp;omega),getElem?_map,g1]
      rfl
     .rw [getElem?_append_right (by simpa using z)]at hi
      have:=mem_of_getElem? hi
      rw[mem_replicate]at this
      cases this.2
   .unfold Xj0 at hi
    cases i with
    |zero=>simp at hi
    |succ i=>
     rw[getElem?_cons_succ]at hi
     by_cases z:i<ds.length
     .rw [getElem?_append_left (by simpa using z),getElem?_map,getElem?_eq_getElem z]at hi
      simp at hi
     .rw [getElem?_append_right (by simpa using z)]at hi
      have:=mem_of_getElem? hi
      rw[mem_replicate]at this
      cases this.2
   .try dsimp only
    split
    .exact hnd
    .exact nodup_nil
   .try dsimp only at y1 y2
    split at y1
    .split at y2
     .omega
     .cases y2
    .cases y1
   .try dsimp only at hb
    split at hb
    .refine ⟨hnf b hb,if_pos hb,?_⟩
     rcases mem_cons.mp hb with y |y
     .rw [y];exact⟨_,ha,rfl⟩
     .rcases mem_cons.mp y with y |y
      .rw [y];exact⟨_,hd,rfl⟩
      .exact hB.isl b y
    .cases hb
  refine⟨t,h1,h2 F _ F H (Xe4 N (V.ref a::Xi0)) (Xj0 N c ns a ts ds) {nx:=λδ=>∃ts',δ[0]?=some (some (.own (.ob (some a) c ns ts')))/\Pr ts',rt:=λ_=>False} _ ⟨_,er⟩ ⟨λF' H' Y δ e p=>?_,λ_ _ _ _ _ z=>z.elim,λ_ _ _ _ _ z=>z.elim,λ_ _ _ _ _ _ z=>z.elim⟩ (h3 a ts ds Pr hsp)⟩
  obtain⟨A',e⟩:=e
  obtain⟨ts',h0,hp⟩:=p
  obtain⟨v,hv,a',C',dx',vs',B',rfl,eA,g0,go,g1,g2,g3,g4⟩:=e.own 0 _ h0
  obtain rfl:=go a rfl
  rw[hC]at g0
  cases g0
  have hn':=e.nod 0
  rw[eA]at hn'
  refine hq ts' F' H' dx' vs' B' hp e.ext.ff e.ext.fh (λb o y z=>?_) (λb o y1 y2 y3 y4=>?_) g1 g2 g3 g4 hn' (λb hb=>?_)
  .exact e.ext.hh b o (by rw[if_neg y];exact z)
  .exact e.ext.no b o y1 (by rw[if_neg y4];exact y2) y3
  .obtain ⟨z1,z2,_⟩:=e.new 0 b (by rw[eA];exact hb)
   refine⟨z1,?_⟩
   by_cases q:b∈a'::dx::B
   .exact .inl q
   .rw [if_neg q]at z2;exact .inr z2
theorem CalM.of {sp:DMo}(Df:MetAt K c m q st f fd)(S:FnScope N ps (Xac st))
  (hb:∀(kV doc pm:Value) (an:Option Addr) (cdv ct:Value) (us:List Value),us.length=ps.length->bindArgs (fnOf m q (Xar st) (Xan st) (Xac st) .none kV doc pm an cdv ct) ⟨us,[]⟩=pure (ps.zip us)) (hn:n=ps.length)
  (hbody:∀(cdv:Value) (A:Around) (outer:List Env) (s:Shared) (H:Hp) (E:XK),Room k (A.deeper (envOfC q (Xac st) s.heap.objs.size f cdv))->
   ∃t T,PSs (Xn6 CX0 P w K mg base N q (Xac st) f cdv A outer s H E).nox (Xan st) t/\Xeg K t T/\∀(a:Addr) ts ds Pr,sp ts ds Pr->T {nx:=λδ=>∃ts',δ[0]?=some (some (.own (.ob (some a) c ns ts')))/\Pr ts',rt:=λ_=>False} (Xj0 N c ns a ts ds)):
  CalM P w K mg base c m (k+1) ps (spM K n c ns sp):=by
 obtain⟨C,hC,cl,hm⟩:=Df.cl
 exact⟨C,f,fd,hC,cl,hm,Yc8 Df.fn S hn hbody,Df.fn.binds hb⟩
theorem CalK.of {sp:DMo}(Df:Fun K m q st f fd)(Mf:MakAt K mg c f)(S:FnScope N ps (Xac st))
  (hb:∀(kV doc pm:Value) (an:Option Addr) (cdv ct:Value) (us:List Value),us.length=ps.length->bindArgs (fnOf m q (Xar st) (Xan st) (Xac st) .none kV doc pm an cdv ct) ⟨us,[]⟩=pure (ps.zip us)) (hn:n=ps.length)
  (hbody:∀(cdv:Value) (A:Around) (outer:List Env) (s:Shared) (H:Hp) (E:XK),Room k (A.deeper (envOfC q (Xac st) s.heap.objs.size f cdv))->
   ∃t T,PSs (Xn6 CX0 P w K mg base N q (Xac st) f cdv A outer s H E).nox (Xan st) t/\Xeg K t T/\∀(a:Addr) ts ds Pr,sp ts ds Pr->T {nx:=λδ=>∃ts',δ[0]?=some (some (.own (.ob (some a) c ns ts')))/\Pr ts',rt:=λ_=>False} (Xj0 N c ns a ts ds)):
  CalK P w K mg base c (k+1) ps (spM K n c ns sp):=by
 obtain⟨C,hC,M,hm⟩:=Mf.cl
 exact⟨C,f,fd,hC,M,hm,Yc8 Df S hn hbody,Df.binds hb⟩
theorem CalP.of {sp:DSp}(Df:MetAt K c m q st f fd)(S:FnScope N ps (Xac st))
  (hb:∀(kV doc pm:Value) (an:Option Addr) (cdv ct:Value) (us:List Value),us.length=ps.length->bindArgs (fnOf m q (Xar st) (Xan st) (Xac st) .none kV doc pm an cdv ct) ⟨us,[]⟩=pure (ps.zip us)) (hn:n=ps.length)
  (hbody:∀(cdv:Value) (A:Around) (outer:List Env) (s:Shared) (H:Hp) (E:XK),Room k (A.deeper (envOfC q (Xac st) s.heap.objs.size f cdv))->
   ∃t T,PSs (Xn6 CX0 P w K mg base N q (Xac st) f cdv A outer s H E).nox (Xan st) t/\Xeg K t T/\∀ds Pr,sp ds Pr->T {nx:=λ_=>Pr (.fz .non),rt:=Pr} (Xfn N ds)):CalM P w K mg base c m (k+1) ps (spV K n sp):=by
 obtain⟨C,hC,cl,hm⟩:=Df.cl
 refine⟨C,f,fd,hC,cl,hm,Df.fn.ok S (λvs H Q E h=>by rw[<- hn];exact h.1) λcdv A outer s H vs Q E hr h=>?_,Df.fn.binds hb⟩
 obtain⟨_,F,ds,Pr,hs,hr',hsp,hq⟩:=h
 obtain⟨t,T,h1,h2,h3⟩:=hbody cdv A outer s H E hr
 refine⟨t,h1,h2 F H F H (Xe4 N vs) (Xfn N ds) {nx:=λ_=>Pr (.fz .non),rt:=Pr} _ ⟨_,Xhy hs hr'⟩ ⟨λF' H' Y δ e p=>?_,λ_ _ _ _ _ z=>z.elim,λ_ _ _ _ _ z=>z.elim,λF' H' r v x n p=>hq r v F' H' p x n⟩ (h3 ds Pr hsp)⟩
 exact hq _ _ F' H' p e.ext (.fz rfl)
end
end L2
namespace PySem
open Sem (wp)
section
variable {prog:Program}{w:World}{A:Around}{E:Value->Shared->Prop}{s:Shared}
theorem Xv0:typeLookup (.type "list_reverseiterator") "__len__"=pure none:=by rw[typeLookup_type,builtinLookup_eq_fast];kernel_rfl
theorem Ybo:typeLookup (.type "list_reverseiterator") "__length_hint__"=pure (some (.builtin "list_reverseiterator.__length_hint__")):=by rw[typeLookup_type,builtinLookup_eq_fast];kernel_rfl
theorem Xnq {I l:Addr}{i:Int}{Q:Bool->Shared->Prop}(hr:s.heap.IsRevIter I l i)(h:Q false s):wpAny (model prog w) A (Builtin.List.listLengthHint (.ref I)) Q E s:=by
 unfold Builtin.List.listLengthHint
 refine wpAny_bind (wpAny_specialOf hr.typeIs Xv0 ?_)
 show wpAny _ A (specialOf (Value.ref I) (Str.ofString "__length_hint__") >>= _) _ _ _
 refine wpAny_bind (wpAny_specialOf hr.typeIs Ybo ?_)
 generalize hid:("list_reverseiterator.__length_hint__":String)=id0
 wp_delta
 rw[show splitId id0=some ("list_reverseiterator","__length_hint__") from by subst hid;decide +kernel]
 subst hid
 refine wpAny_bind (wpAny_isInstance (T := "list_reverseiterator") (b:=true) hr.typeIs (by rw[isSubtype_type];kernel_rfl) ?_)
 refine wpAny_ite_split (λhab=>absurd hab (by decide)) (λ_=>?_)
 refine wpAny_ite_split (λ_=>?_) (λhab=>absurd (by decide +kernel) hab)
 refine wpAny_ite_split (λhab=>absurd hab (by decide +kernel)) (λ_=>?_)
 exact wpAny_pure h
theorem Xlp {R:Result->Shared->Prop}{I l:Addr}{items:Array Value}(hh:A.handled=none)(hr:s.heap.IsRevIter I l ((items.size:Int)-1))(hl:s.heap.IsList l items)(hlen:items.size<=2^24)
  (S:Addr) (res:Value) (c₀:Nat) (hS:s.heap.get? S=some {cls:=.type "list",data:=.seq #[] c₀}) (hSI:S≠I) (hSl:S≠l) (hlI:l≠I)
  (hR:∀h' tk acc' c',(∀b o,b≠S->b≠I->s.heap.get? b=some o->h'.get? b=some o)->h'.get? S=some {cls:=.type "list",dict:=none,data:=.seq acc' c',slots:=#[]}->
   ItemsOf (λi v=>items[items.size-1-i]?=some v) acc' items.size->R (.ok (.ret res)) {s with heap:=h',toks:=tk}):
  wpAny (model prog w) A.in1 (Builtin.List.listExtendWith (.ref S) (.ref I) res)
   (λfin s'=>match fin with | .done f=>R (.ok f) s' | .again c'=>c'.quiet=true/\codeAny (model prog w) A c' R s') (λe s'=>R (.error e) s') s:=by
 have hSf:S∉[I,l]:=λhm=>by
  rcases mem_cons.mp hm with e |e
  .exact hSI e
  .exact hSl (mem_singleton.mp e)
 have W:=(Walks.listRev (prog:=prog) (w:=w) (A:=A.in1) hh I l hlI items).toS
 unfold Builtin.List.listExtendWith
 refine wpAny_bind (wpAny_typeOf hr.typeIs ?_)
 have h1:Builtin.List.listSameRef (.ref S) (.ref I)=false:=by simp[Builtin.List.listSameRef,hSI]
 have h2:(Value.type "list_reverseiterator"==Value.type "list")=false:=by decide
 have h3:(Value.type "list_reverseiterator"==Value.type "tuple")=false:=by decide
 simp only[h1,h2,h3,Bool.or_false,false_eq_true,if_false]
 refine wpAny_bind (wpAny_pyIter_revIter hr ?_)
 refine wpAny_bind (wpAny_holding (Xnq hr ?_))
 refine wpAny_ite_split (λhab=>absurd hab (by decide)) (λ_=>wpAny_pure ⟨plainId_quiet F.plain_extend_loop _,?_⟩)
 refine codeAny_extend_loopS W (by rw[sizeLine_eq];omega) S hSf res items.size 0 _ #[] c₀ rfl (zero_le _) ⟨zero_le _,by simpa using hr,hl⟩ hS (ItemsOf.nil _) λs' acc' c' hm hS' hacc=>?_
 rw[Moved.eq_with hm]
 refine hR s'.heap s'.toks acc' c' (λb o hb hb2 e=>hm.heap b o (λhmem=>?_) e) hS' hacc
 rcases mem_cons.mp hmem with e' |hmem
 .exact hb e'
 .exact hb2 (mem_singleton.mp hmem)
theorem Xjg {R:Result->Shared->Prop}{I l:Addr}{items:Array Value}(hh:A.handled=none)(hr:s.heap.IsRevIter I l ((items.size:Int)-1))(hl:s.heap.IsList l items)(hlen:items.size<=2^24)
  (S:Addr) (hS:s.heap.get? S=some {cls:=.type "list",data:=.seq #[]}) (hSI:S≠I) (hSl:S≠l) (hlI:l≠I)
  (hR:∀h' tk acc' c',(∀b o,b≠S->b≠I->s.heap.get? b=some o->h'.get? b=some o)->h'.get? S=some {cls:=.type "list",dict:=none,data:=.seq acc' c',slots:=#[]}->
   ItemsOf (λi v=>items[items.size-1-i]?=some v) acc' items.size->R (.ok (.ret .none)) {s with heap:=h',toks:=tk}):
  wpAny (model prog w) A.in1 (Builtin.«list.__init__» ⟨[.ref S,.ref I],[]⟩)
   (λfin s'=>match fin with | .done f=>R (.ok f) s' | .again c'=>c'.quiet=true/\codeAny (model prog w) A c' R s') (λe s'=>R (.error e) s') s:=by
 show wpAny _ _ (do let old <- Builtin.List.listItems (.ref S);Builtin.List.listUpdate (.ref S) (λ_=>#[]);letGo old.toList.reverse;Builtin.List.listExtendWith (.ref S) (.ref I) .none) _ _ s
 refine wpAny_bind ?_
 unfold Builtin.List.listItems
 refine wpAny_bind (wpAny_seqItems hS rfl (wpAny_pure ?_))
 show wpAny _ _ (updateSeq S (λ_=>#[]) >>= λ_=>letGo (#[]:Array Value).toList.reverse >>= λ_=>Builtin.List.listExtendWith (.ref S) (.ref I) .none) _ _ s
 refine wpAny_bind (wpAny_updateSeq hS rfl ?_)
 have hS₂:=get?_update_self (Obj.mapSeq (λ_=>(#[]:Array Value))) hS rfl
 have oth:∀b o,b≠S->s.heap.get? b=some o->(s.heap.update S (Obj.mapSeq (λ_=>(#[]:Array Value)))).get? b=some o:=
  λb o hb e=>(Heap.get?_update_other _ _ (Ne.symm hb)).trans e
 refine wpAny_bind (wpAny_letGo ?_)
 refine Xlp hh (hr.at λo e=>oth I o (Ne.symm hSI) e) (hl.at λo e=>oth l o (Ne.symm hSl) e) hlen S .none _ hS₂ hSI hSl hlI λh' tk acc' c' hk hS' hacc=>?_
 exact hR h' tk acc' c' (λb o hb hb2 e=>hk b o hb hb2 (oth b o hb e)) hS' hacc
theorem call_list_lri {Q:Value->Shared->Prop}{I l:Addr}{items:Array Value}(hh:A.handled=none)(hr:s.heap.IsRevIter I l ((items.size:Int)-1))(hl:s.heap.IsList l items)(hlen:items.size<=2^24)(hlI:l≠I)
  (hQ:∀h' tk acc' c',(∀b o,b≠I->s.heap.get? b=some o->h'.get? b=some o)->
   h'.get? s.heap.objs.size=some {cls:=.type "list",dict:=none,data:=.seq acc' c',slots:=#[]}->ItemsOf (λi v=>items[items.size-1-i]?=some v) acc' items.size->Q (.ref s.heap.objs.size) {s with heap:=h',toks:=tk}):
  wpAny (model prog w) A (call (.type "list") [.ref I]) Q E s:=by
 refine callType_codes (Q₁:=λobj s₁=>obj = .ref s.heap.objs.size/\s₁={s with heap:=s.heap.push {cls:=.type "list",data:=.seq #[]}}) F.called_list (F.typeCall_list_1 _) F.entry_list_init
  (code_list_new _ ⟨rfl,rfl⟩) λobj s₁ h₁=>?_
 obtain⟨rfl,rfl⟩:=h₁
 have hS:(s.heap.push {cls:=.type "list",data:=.seq #[]}).get? s.heap.objs.size=some {cls:=.type "list",data:=.seq #[]}:=get?_push_size _ rfl
 obtain⟨oI,hoI,_⟩:=id hr
 obtain⟨ol,hol,_⟩:=id hl
 refine⟨⟨_,hS,rfl⟩,F.args_list_init_2 _ _,Xjg (A:=A.in1) hh (hr.at λo e=>get?_push_of_some _ e) (hl.at λo e=>get?_push_of_some _ e) hlen _ hS (Ne.symm (ne_of_lt (lt_size hoI))) (Ne.symm (ne_of_lt (lt_size hol))) hlI λh' tk acc' c' hk hS' hacc=>?_⟩
 exact⟨rfl,hQ h' tk acc' c' (λb o hb e=>hk b o (ne_of_lt (lt_size e)) hb (get?_push_of_some _ e)) hS' hacc⟩
end
end PySem
namespace L2
open PySem PySem.Spec PyProof.Rows
def Xuu (As:DA):DO:=λδ P=>As δ λds=>match ds with
 | [.lst xs]=>D.lfs xs=true/\xs.length<=1000000/\P (.nl (xs.reverse.map .fz))
 |_=>False
section
variable {X:Cx}{K:Frag}
def Xtw (K:Frag)(ta:TA):TE:=λY H Q=>ta Y H λvs H1=>∃a xs,vs=[.ref a]/\SqL K H1 a xs/\xs.length<=1000000/\∀p H',H1 p=none->Xbi H1 H'->H' p=some (.lst xs.reverse)->Q (.ref p) H'
theorem Yaj {xs:List V}{its:List Value}{acc:Array Value}(r:Xb5 xs its)(h:ItemsOf (λi v=>its.toArray[its.toArray.size-1-i]?=some v) acc its.toArray.size):Xb5 xs.reverse acc.toList:=by
 have hr:Xb5 xs.reverse its.reverse:=by
  clear h
  induction r with
  |nil=>exact .nil
  |cons a r ih=>
   rw[reverse_cons,reverse_cons]
   exact ih.append (.cons a .nil)
 have e:acc.toList=its.reverse:=by
  obtain⟨h1,h2⟩:=h
  have h1':acc.size=its.length:=by simpa using h1
  rw[size_toArray]at h2
  refine ext_getElem? λi=>?_
  by_cases hi:i<its.length
  .rw [getElem?_reverse hi]
   have hia:i<acc.size:=by omega
   have q:=h2 i acc[i] (by simp[hia])
   rw[Array.getElem?_toList,Array.getElem?_eq_getElem hia,<- q]
   simp
  .rw [getElem?_eq_none (by simp;omega),getElem?_eq_none (by simp;omega)]
 rw[e];exact hr
theorem Xvm {a:Expr}{ta:TA}{p p' pos pos':Pos}(hg:Gl X "list")(hm:X.mg "list"=none)(hc:X.calm=true)(hm':X.mg "reversed"=none)(ha:PA X [a] ta)(hg':Gl X "reversed":=by rfl)
  (hs:starEach [a] X.env=[(false,eval a X.env)]:=by rfl)
  (hs2:starEach [Expr.Call (.Name "reversed" p') [a] [] pos'] X.env=[(false,eval (Expr.Call (.Name "reversed" p') [a] [] pos') X.env)]:=by rfl):
  PE X (.Call (.Name "list" p) [.Call (.Name "reversed" p') [a] [] pos'] [] pos) (Xtw X.K ta):=by
 intro pins s Y H Q I h
 refine Call_ (Xkf I hg hm PyProof.Rows.boot_list (PyProof.Rows.callWith_type1 ?_ hs2 rfl))
 rw[hs2]
 show wpAny _ _ (spliced [(false,eval (Expr.Call (.Name "reversed" p') [a] [] pos') X.env)]) _ _ s
 refine Calls.spliced_cons ?_
 refine Call_ (Xkf I hg' hm' PyProof.Rows.boot_reversed (PyProof.Rows.callWith_type1 (thn (ha pos' pins s Y H _ I h) λus s1 ⟨vs,H1,I1,r1,q1⟩=>?_) hs rfl))
 obtain⟨l,xs,e,hq,hsz,q⟩:=q1
 subst e
 obtain⟨u,rfl,ru⟩:=Xiy r1
 cases ru
 obtain⟨its,rv,pt,hz⟩:=I1.list hq
 have hl:=rv.length
 refine PySem.call_reversed_list (items:=its.toArray) pt.isList ?_
 refine Calls.spliced_nil ?_
 have I2:Inv X pins Y H1 {s1 with heap:=s1.heap.push (revObj l ((its.toArray.size:Int)-1)),toks:=s1.toks}:=I1.kept λb o e=>get?_push_of_some _ e
 obtain⟨ol,hol,_⟩:=id pt.isList
 have hlt:=lt_size hol
 refine PySem.call_list_lri (items:=its.toArray) (I.ok.hd hc) ⟨_,get?_push_size _ rfl,rfl,rfl⟩ (pt.isList.at λo e=>get?_push_of_some _ e) (by rw[size_toArray];omega) (ne_of_lt hlt) λh' tk acc c' hk ho hit=>?_
 have hf:=I2.hok.fresh (Nat.le_refl _)
 have hsz2:(s1.heap.push (revObj l ((its.toArray.size:Int)-1))).objs.size=s1.heap.objs.size+1:=by simp[Heap.push]
 refine⟨.ref _,_,I1.laid (t':=tk) (o:=.lst xs.reverse) (λb o e=>hk b o (ne_of_lt (lt_size e)) (get?_push_of_some _ e)) (by rw[hsz2];exact le_succ _) ⟨?_,acc.toList,c',Yaj rv hit,?_⟩,rfl,q _ _ hf (Xbi.new hf) Xay⟩
 .rw [length_reverse];exact Xcj hsz
 .simpa using ho
theorem Xvi {a:TA}{As:DA}(h:Xn8 K a As):Xjx K (Xtw K a) (Xuu As):=λF0 H0 F H Y δ P Q e w q=>h F0 H0 F H Y δ _ _ e w λds vs F1 H1 w1 x1 r1=>by
 try dsimp only at w1
 split at w1
 .rename_i xs
  obtain⟨v,rfl,⟨a,us,rfl,h1,h2⟩⟩:=Xjm r1
  refine⟨a,us,rfl,h1,by rw[<- h2.length];exact w1.2.1,λp H' p0 sm p1=>?_⟩
  have hr:=(Xb4.lf x1.fh h2 w1.1).reverse
  refine q _ _ (Xti F1 H1) H' w1.2.2 (x1.trans ((Xhe x1.fh).trans (Ext.grow (Xhe x1.fh).fh sm))) ?_
  exact Xno.list (x1.hh.free p0) ((Xhe x1.fh).fh.free p0) p1 hr
 .exact w1.elim
end
def Yfa (x:Str)(n:Int):Str:=if n<1 then Str.empty else if (n==1 ||x.length==0)=true then x else ⟨(List.replicate n.toNat x.cps).foldl (·++·) #[]⟩
def Ykb (E El:DE):DE:=λδ P=>E δ λd=>match d with
 | .str x=>El δ λl=>match l with
  | .lst ds=>∃ys:List Str,ds=ys.map D.str/\(ys.map (·.length)).sum+ys.length*x.length<=16777216/\P (.str (Txt.join x ys))
  |_=>False
 |_=>False
def Yf0:DR2:=λx y P=>match x,y with
 | .str x,.int n=>-(2^62)<n/\n<2^62/\x.length*n.toNat<=1000000/\P (.str (Yfa x n))
 |_,_=>False
def Yg8:DR2:=λx y P=>match x,y with
 | .str x,.str y=>x.length+y.length<=1000000/\P (.str (x++y))
 |_,_=>False
def Yk5:List D->(D->Prop)->Prop:=λds P=>match ds with
 | [.int i]=>i.natAbs.log2<1920/\P (.str (toString i))
 |_=>False
section
variable {X:Cx}{K:Frag}
def Yig (K:Frag):V->List V->Hp->VK->Prop:=λx vs H Q=>∃sep p xs,∃ys:List Str,x = .str sep/\vs=[.ref p]/\SqL K H p xs/\xs=ys.map V.str/\(ys.map (·.length)).sum+ys.length*sep.length<=16777216/\Q (.str (Txt.join sep ys)) H
theorem Xk9:∀{ys:List Str} {us:List Value},Xb5 (ys.map V.str) us->StrsAre us ys
 | [],us,r=>by rw[map_nil]at r;cases r;exact .nil
 |y :: ys,us,r=>by
  rw[map_cons]at r
  cases r with
  |cons r1 r2=>
   obtain⟨t,e⟩:=r1
   subst e
   exact .cons y t (Xk9 r2)
theorem Xg9:MtR X "str.join" (Yig X.K):=by
 intro pins s Y H x xs v us Q I rx r h
 obtain⟨sep,p,zs,ys,rfl,rfl,hq,rfl,hb,q⟩:=h
 obtain⟨t,rfl⟩:=rx
 obtain⟨u,rfl,ru⟩:=Xiy r
 cases ru
 obtain⟨its,rv,pt,hz⟩:=I.list hq
 refine PyProof.Rows.join_list pt.isList (by simpa using Xk9 rv) hb λt' k=>⟨.str _,H,I.tok k,⟨_,rfl⟩,q⟩
def Yie:R2:=λx y H Q=>∃z n,x = .str z/\y = .int n/\-(2^62)<n/\n<2^62/\z.length*n.toNat<=1000000/\Q (.str (Yfa z n)) H
theorem Yfp:OpR X (binaryOp .Mult) Yie:=by
 intro pins s Y H x y v u Q I rx ry h
 obtain⟨z,n,rfl,rfl,h1,h2,h3,q⟩:=h
 obtain⟨t,rfl⟩:=rx
 obtain⟨t',rfl⟩:=ry
 have q':∀k t,EP X pins Y Q (.str (Yfa z n) t) {s with toks:=k}:=λk t=>⟨.str _,H,I.tok k,⟨_,rfl⟩,q⟩
 refine PySem.P.mul_str ?_ (λa b=>?_) (λa b=>?_) ?_
 .simp;omega
 .have hz:z.length<=1000000:=le_trans (Nat.le_mul_of_pos_right _ (by omega)) h3
  have hn:n<=1000000∨z.length=0:=by
   by_cases hz0:z.length=0
   .exact .inr hz0
   .refine .inl ?_
    have:=le_trans (Nat.le_mul_of_pos_left n.toNat (Nat.pos_of_ne_zero hz0)) h3
    omega
  rcases hn with hn |hn
  .have e:(1000000:Int)<=(2^63-1) / n:=by
    rw[Int.le_ediv_iff_mul_le (by omega)]
    have:(1000000:Int)*n<=1000000*1000000:=Int.mul_le_mul_of_nonneg_left hn (by omega)
    omega
   omega
  .simp [hn]at b
 .have:=Xcj h3
  show decide (_ > sizeLine)=false
  exact decide_eq_false (by omega)
 .have hq:=q' s.toks t
  have hq2:=q' (s.toks+1) s.toks
  unfold Yfa at hq hq2
  split
  .rename_i c
   rw[if_pos c]at hq2
   exact⟨zero_le _,hq2⟩
  .rename_i c
   rw[if_neg c]at hq hq2
   split
   .rename_i c2
    rw[if_pos c2]at hq
    exact hq
   .rename_i c2
    rw[if_neg c2]at hq2
    refine⟨?_,hq2⟩
    have e:∀(k:Nat) (a:Array Nat),((List.replicate k z.cps).foldl (·++·) a).size=a.size+k*z.cps.size:=by
     intro k
     induction k with
     |zero=>intro a;simp
     |succ k ih=>intro a;rw[replicate_succ,foldl_cons,ih,size_append,succ_mul];omega
    show ((List.replicate n.toNat z.cps).foldl (·++·) #[]).size<=sizeLine
    rw[e]
    have h3':z.cps.size*n.toNat<=1000000:=h3
    rw[Nat.mul_comm]at h3'
    exact Xcj (by simpa using h3')
theorem Yfw:OpS K Yie Yf0:=λF H x y v u P Q s rx ry w q=>by
 unfold Yf0 at w
 split at w
 .cases rx;cases ry
  exact⟨_,_,rfl,rfl,w.1,w.2.1,w.2.2.1,q _ _ F H w.2.2.2 (Ext.refl s) rfl⟩
 .exact w.elim
theorem Xyn:OpS K (λx y H Q=>∃i j,x = .str i/\y = .str j/\i.length+j.length<=sizeLine/\Q (.str (i++j)) H) Yg8:=λF H x y v u P Q s rx ry w q=>by
 unfold Yg8 at w
 split at w
 .cases rx;cases ry
  exact⟨_,_,rfl,rfl,Xcj w.1,q _ _ F H w.2 (Ext.refl s) rfl⟩
 .exact w.elim
def Yc0:V->Option Int->Option Int->Hp->VK->Prop:=λx lo hi H Q=>∃z,x = .str z/\z.length<=sizeLine/\Q (.str (Txt.slice z lo hi)) H
theorem Xme:SlR X Yc0:=by
 intro pins s Y H x v vl vu lo hi sl Q I rx hs pl pu h
 obtain⟨z,rfl,hz,q⟩:=h
 obtain⟨t,rfl⟩:=rx
 refine⟨"str",_,F.slot_str_getitem.lookup,typeIs_str _ _ _,?_⟩
 have fin:∀t' k,EP X pins Y Q (.str (Txt.slice z lo hi) t') {s with toks:=k}:=λt' k=>⟨.str _,H,I.tok k,⟨_,rfl⟩,q⟩
 have lp:∀{v:Value} {o:Option Int},IsPart v o->∃l:Option (Int×Tok),v=partValue l/\l.map (·.1)=o:=λh=>by
  cases h with
  |none=>exact⟨none,rfl,rfl⟩
  |int i t=>exact⟨some (i,t),rfl,rfl⟩
 obtain⟨l,rfl,e1⟩:=lp pl
 obtain⟨u,rfl,e2⟩:=lp pu
 subst e1 e2
 exact wpAny_getItem_str_slice (l:=l) (u:=u) (st:=none) hs rfl (post_val_or_str ⟨le_trans (Txt.slice_le z _ _) hz,λt' k=>fin t' k⟩)
theorem Xuz:CbS K (λxs H Q=>∃i,xs=[.int i]/\i.natAbs.log2<1920/\Q (.str (toString i)) H) Yk5:=λF H ds vs P Q s rs w q=>by
 unfold Yk5 at w
 split at w
 .obtain ⟨v,rfl,r1⟩:=Xjm rs
  cases r1
  exact⟨_,rfl,w.1,q _ _ F H w.2 (Ext.refl s) rfl⟩
 .exact w.elim
theorem Xg6 {te ta:TE}{E El:DE}(h:Xgi K te E)(ha:Xgi K ta El):Xeh K (tBM K "str" (Yig K) te (Xiz ta Xqc)) (Ykb E El):=λF0 H0 F H Y δ P Q e w q=>h F0 H0 F H Y δ _ _ e w λd v F1 H1 w1 x1 r1=>by
 try dsimp only at w1
 split at w1
 .rename_i x
  cases (show v=V.str x from r1)
  refine⟨rfl,ha F0 H0 F1 H1 Y δ _ _ (e.on x1) w1 λl u F2 H2 w2 x2 r2=>?_⟩
  try dsimp only at w2
  split at w2
  .rename_i ds
   obtain⟨ys,rfl,hb,w2⟩:=w2
   obtain⟨a,us,rfl,h1,h2⟩:=r2
   have hus:us=ys.map V.str:=by
    clear h1 hb w2
    induction ys generalizing us with
    |nil=>exact h2
    |cons y ys ih=>
     obtain⟨v,r,rfl,g1,g2⟩:=h2
     rw[ih _ g2,show v=V.str y from g1];rfl
   exact⟨x,a,us,ys,rfl,rfl,h1,hus,hb,q _ _ F2 H2 w2 (x1.trans x2) rfl⟩
  .exact w2.elim
 .exact w1.elim
def Ym1 (E:DE)(L U:DPt):DE:=λδ P=>E δ λd=>L δ λlo=>U δ λhi=>match d with
 | .str z=>z.length<=1000000/\P (.str (Txt.slice z lo hi))
 |_=>False
theorem Xmt {ta:TE}{Ea:DE}{tl tu:TO}{L U:DPt}(ha:Xeh K ta Ea)(hl:Yd1 K tl L)(hu:Yd1 K tu U):Xeh K (tSl Yc0 ta tl tu) (Ym1 Ea L U):=λF0 H0 F H Y δ P Q e w q=>
 ha F0 H0 F H Y δ _ _ e w λd v F1 H1 w1 x1 r1=>hl F0 H0 F1 H1 Y δ _ _ (e.on x1) w1 λlo F2 H2 w2 x2=>hu F0 H0 F2 H2 Y δ _ _ (e.on (x1.trans x2)) w2 λhi F3 H3 w3 x3=>by
  try dsimp only at w3
  split at w3
  .rename_i z
   cases (show v=V.str z from r1)
   exact⟨z,rfl,Xcj w3.1,q _ _ F3 H3 w3.2 (x1.trans (x2.trans x3)) rfl⟩
  .exact w3.elim
theorem Xlm {F:Hp}:∀{ds:List D} {vs:List V},Xb4 K F ds vs->vs.isEmpty=ds.isEmpty
 | [],vs,h=>by cases (show vs=[] from h);rfl
 |d::ds,vs,h=>by obtain⟨v,r,rfl,_⟩:=h;rfl
theorem Yar {t:TE}{E:DE}(h:Xgi K t E):Xtp K (λY H Q=>t Y H λx H1=>∃k,Yl2 K x H1 k/\Q k H1) (Ydp E):=λF0 H0 F H Y δ P Q e w q=>h F0 H0 F H Y δ _ _ e w λd v F1 H1 w1 x1 r1=>by
 try dsimp only at w1
 split at w1
 .cases r1;exact⟨_,rfl,q _ F1 H1 w1 x1⟩
 .rename_i i
  cases r1
  refine⟨_,rfl,q _ F1 H1 ?_ x1⟩
  rw[show (i != 0)=decide (i≠0) by rw[Bool.eq_iff_iff];simp]
  exact w1
 .obtain ⟨a,vs,rfl,h1,h2⟩:=r1
  exact⟨_,.inl ⟨vs,h1,by rw[Xlm h2]⟩,q _ F1 H1 w1 x1⟩
 .obtain ⟨a,vs,rfl,h1,h2⟩:=r1
  exact⟨_,.inr (.inl ⟨vs,h1,by rw[Xlm h2]⟩),q _ F1 H1 w1 x1⟩
 .cases r1;exact⟨_,rfl,q _ F1 H1 w1 x1⟩
 .exact w1.elim
end
def Xxb (x:Str):List Str:=x.cps.toList.map λc=>⟨#[c]⟩
def Ym6 (E:DE):DA:=λδ P=>E δ λd=>match d with
 | .str x=>P ((Xxb x).map D.str)
 |_=>False
section
variable {X:Cx}{K:Frag}
def Itx (x:Str):It:=⟨λi _=>i<x.cps.size,λi H v H'=>H'=H/\∃c,x.cps[i]?=some c/\v = .str ⟨#[c]⟩,λi _=>x.cps.size<=i⟩
theorem Xtu {P:Program}{w:World}{K:Frag}{tg:Expr}(it:Addr)(x:Str)(t:Tok):Turn P w K tg (Itx x) [it] it (λi h=>i<=x.cps.size/\(h.IsStrIter it "str_ascii_iterator" x t i∨h.IsStrIter it "str_iterator" x t i)) where
 mem:=by simp
 obj:=λi h st b hb=>by
  have e:b=it:=by simpa using hb
  subst e
  rcases st.2 with⟨o,ho,_,hd⟩ | ⟨o,ho,_,hd⟩
  .exact ⟨o,ho,λv z=>by rw[hd]at z;cases z⟩
  .exact ⟨o,ho,λv z=>by rw[hd]at z;cases z⟩
 keep:=λi h h' st k=>⟨st.1,st.2.imp (λ⟨o,e,r⟩=>⟨o,k it (by simp) o e,r⟩) (λ⟨o,e,r⟩=>⟨o,k it (by simp) o e,r⟩)⟩
 item:=by
  kj_on
  have hi:i<x.cps.size:=hg
  obtain⟨f0,f1,f2,f3,f4,f5⟩:=hf it (by simp)
  have hx:x.cps[i]?=some x.cps[i]:=Array.getElem?_eq_getElem hi
  rcases st.2 with st0 |st0
  .refine PySem.wpAny_pyNext_ascii_item st0 hx λh' st1 sb=>?_
   have I1:Inv X pins Y H {s with heap:=h',toks:=s.toks+1}:=I.turned (t':=s.toks+1) (λb o hb e=>(sb.2 b hb).trans e) f0 f1 f3 f4 f5
   obtain⟨o,ho,hc',hd'⟩:=id st1
   exact⟨_,rfl,Xtb (s:={s with heap:=h',toks:=s.toks+1}) (n := "str_ascii_iterator") ho hc' hd' (by decide) ⟨.str ⟨#[x.cps[i]]⟩,H,I1,⟨_,rfl⟩,⟨rfl,_,hx,rfl⟩,⟨by omega,.inl st1⟩,λb hb=>(hf b hb).1⟩⟩
  .refine PySem.wpAny_pyNext_wide_item st0 hx λh' st1 sb=>?_
   have I1:Inv X pins Y H {s with heap:=h',toks:=s.toks+1}:=I.turned (t':=s.toks+1) (λb o hb e=>(sb.2 b hb).trans e) f0 f1 f3 f4 f5
   obtain⟨o,ho,hc',hd'⟩:=id st1
   exact⟨_,rfl,Xtb (s:={s with heap:=h',toks:=s.toks+1}) (n := "str_iterator") ho hc' hd' (by decide) ⟨.str ⟨#[x.cps[i]]⟩,H,I1,⟨_,rfl⟩,⟨rfl,_,hx,rfl⟩,⟨by omega,.inr st1⟩,λb hb=>(hf b hb).1⟩⟩
 done:=by
  kj_on
  obtain⟨f0,f1,f2,f3,f4,f5⟩:=hf it (by simp)
  have hx:x.cps[i]?=none:=Array.getElem?_eq_none hg
  rcases st.2 with st0 |st0
  .exact PySem.wpAny_pyNext_ascii_end (I.ok.hd hc) st0 hx λh' eb=>⟨rfl,I.turned (t':=s.toks) (λb o hb e=>eb b o hb e) f0 f1 f3 f4 f5⟩
  .exact PySem.wpAny_pyNext_wide_end (I.ok.hd hc) st0 hx λh' eb=>⟨rfl,I.turned (t':=s.toks) (λb o hb e=>eb b o hb e) f0 f1 f3 f4 f5⟩
 self:=λ_ _ _ _ _ st h=>by
  rcases st.2 with st0 |st0
  .exact PySem.wpAny_pyIter_striter_ascii st0 h
  .exact PySem.wpAny_pyIter_striter_wide st0 h
def Ymt (te:TE):TI:=λY H R=>te Y H λv H1=>∃x,v = .str x/\R (Itx x) H1
theorem Yc3 {tg l:Expr}{te:TE}(he:PE X l te):PI X tg l (Ymt te):=by
 intro pins s Y H R I h
 refine thn (he pins s Y H _ I h) λu s1 ⟨v,H1,I1,r1,q1⟩=>?_
 obtain⟨x,e,q⟩:=q1
 subst e
 obtain⟨t,rfl⟩:=r1
 cases ha:x.cps.all (· < 128)
 .refine PySem.wpAny_pyIter_wide ha ?_
  refine⟨s1.heap.objs.size,[s1.heap.objs.size],_,_,H1,rfl,I1.kept (t':=s1.toks) λb o e=>get?_push_of_some _ e,Xtu s1.heap.objs.size x t,⟨zero_le _,.inr ⟨_,get?_push_size _ rfl,rfl,rfl⟩⟩,λb hb=>?_,q⟩
  have e:b=s1.heap.objs.size:=by simpa using hb
  subst e
  exact I1.fpOk (Nat.le_refl _) (I1.hok.fresh (Nat.le_refl _))
 .refine PySem.wpAny_pyIter_ascii ha ?_
  refine⟨s1.heap.objs.size,[s1.heap.objs.size],_,_,H1,rfl,I1.kept (t':=s1.toks) λb o e=>get?_push_of_some _ e,Xtu s1.heap.objs.size x t,⟨zero_le _,.inl ⟨_,get?_push_size _ rfl,rfl,rfl⟩⟩,λb hb=>?_,q⟩
  have e:b=s1.heap.objs.size:=by simpa using hb
  subst e
  exact I1.fpOk (Nat.le_refl _) (I1.hok.fresh (Nat.le_refl _))
theorem Ycw {t:TE}{E:DE}(h:Xgi K t E):Yb9 K (Ymt t) (Ym6 E):=λF0 H0 F H Y δ P R e w q=>h F0 H0 F H Y δ _ _ e w λd v F' H' p x r=>by
 try dsimp only at p
 split at p
 .rename_i z
  cases (show v=V.str z from r)
  refine⟨z,rfl,q _ _ F' H' p x λF1 H1 s1 s2=>?_⟩
  have hl:((Xxb z).map D.str).length=z.cps.size:=by simp[Xxb]
  rw[hl]
  refine⟨λi hi=>hi,Nat.le_refl _,λi v H2 hi y=>?_⟩
  obtain⟨rfl,c,hc,rfl⟩:=y
  refine⟨.str ⟨#[c]⟩,F1,?_,Ext.refl s2,rfl⟩
  simp[Xxb,hc]
 .exact p.elim
end
section
variable {X:Cx}{K:Frag}
end
section
variable {K:Frag}{c f:Str}{ns:List Str}{j:Nat}{ta:TE}{E:DE}
end
section
variable {X:Cx}{tg elt iter cd:Expr}{scope:Scope}{N:List Str}{ix:List (Option Nat)}{wi:TI}{g:TG}{tc:TT}{te:TE}{pos:Pos}
end
section
variable {K:Frag}{te:TE}{Eo:DO}
end
theorem adr {x y:Nat}(h:x≠y):(show Addr from x)≠(show Addr from y):=h
section
variable {prog:Program}{w:World}{A:Around}{E:Value->Shared->Prop}{s:Shared}
end
section
variable {X:Cx}{K:Frag}{mg:Str->Option Value}
end
section
variable {X:Cx}{K:Frag}
end
abbrev TK:=V->St->Hp->(Bool->Hp->Prop)->Prop
section
variable {X:Cx}{K:Frag}{a e e':Expr}{es:List Expr}{op op':CmpOp}{ops:List CmpOp}{r:R2}{ta te:TE}{tk:TK}{pos:Pos}
end
abbrev DK:=D->Dst->(Bool->Prop)->Prop
section
variable {K:Frag}{ta te:TE}{E Ea:DE}{tk:TK}{k:DK}{R:R2}{r:DR2}
end
def Ycv:DS:=λ_ _=>False
section
variable {X:Cx}{K:Frag}{st:Stmt}{sts:List Stmt}
theorem Xf9:Xeg K Yck Ycv:=λ_ _ _ _ _ _ _ _ _ _ w=>w.elim
end
abbrev P2 (h:Heap)(t:Addr)(a b:Value):Prop:=h.get? t=some {cls:=.type "tuple",data:=.seq #[a,b]}
abbrev Zt (h:Heap)(b:Nat)(v:Value):Prop:=IsZip h (b+4) (b+2) (b+3) v
theorem Xf3 {h h':Heap}{a t:Addr}{i:Nat}(x:IsTupIter h a t i)(e:∀o,h.get? a=some o->h'.get? a=some o):IsTupIter h' a t i:=let⟨o,ho,r⟩:=x;⟨o,e _ ho,r⟩
section
variable {prog:Program}{w:World}{A:Around}{E:Value->Shared->Prop}{s:Shared}
theorem Xot {it t:Addr}{i:Nat}{its:Array Value}{x:Value}{Q:Value->Shared->Prop}(hi:IsTupIter s.heap it t i)(ht:IsTup s.heap t its)(hx:its[i]?=some x)(q:∀g,IsTupIter g it t (i+1)->Heap.SameBut it s.heap g->Q x {s with heap:=g}):wpAny (model prog w) A (Builtin.SmallTypes.nextOf (.ref it)) Q E s:=by
 obtain⟨o,o1,o2,o3⟩:=id hi
 obtain⟨p,p1,_,n,p2⟩:=ht
 unfold Builtin.SmallTypes.nextOf
 refine wpAny_bind (wpAny_callSpecial?_slot (name:=Str.ofString "__next__") hi.typeIs slot_tupleiter_next (wpAny_call_entry slot_tupleiter_next hi.typeIs entry_tupleiter_next ?_ (args_tupleiter_next _)))
 show wpAny _ _ (field (.ref it) 0 >>= _) _ _ s
 refine wpAny_bind (wpAny_field o1 o3 (x:=.ref t) rfl ?_)
 show wpAny _ _ (if (Value.ref t==Value.none)=true then _ else _) _ _ s
 rw[if_neg (show ¬ ((Value.ref t==Value.none)=true) from λz=>Bool.false_ne_true z)]
 show wpAny _ _ (field (.ref it) 1 >>= _) _ _ s
 refine wpAny_bind (wpAny_field o1 o3 (x:=.int i 0) rfl ?_)
 show wpAny _ _ (seqItems? (.ref t) >>= _) _ _ s
 refine wpAny_bind (wpAny_seqItems p1 p2 ?_);simp only[hx,toNat_natCast]
 refine wpAny_bind (wpAny_setField o1 o3 (by simp) (wpAny_pure ⟨x,rfl,wpAny_pure (q _ ?_ (Heap.SameBut.update ..))⟩))
 exact⟨_,get?_update_self _ o1 (Obj.isFreed_of_fields (Obj.data_mapFields o3 _)),(Obj.cls_mapFields ..).trans o2,by rw[Obj.data_mapFields o3];simp[rawInt]⟩
theorem Xyo {it t:Addr}{i:Nat}{its:Array Value}{Q:Value->Shared->Prop}(hh:A.handled=none)(hi:IsTupIter s.heap it t i)(ht:IsTup s.heap t its)(hx:its[i]?=none)(q:∀g e,Heap.ExtBut it s.heap g->(∃o,g.get? e=some o/\o.cls = .type "StopIteration")->E (.ref e) {s with heap:=g}):wpAny (model prog w) A (Builtin.SmallTypes.nextOf (.ref it)) Q E s:=by
 obtain⟨o,o1,o2,o3⟩:=id hi
 obtain⟨p,p1,_,n,p2⟩:=ht
 unfold Builtin.SmallTypes.nextOf
 refine wpAny_bind (wpAny_callSpecial?_slot (name:=Str.ofString "__next__") hi.typeIs slot_tupleiter_next (wpAny_call_entry slot_tupleiter_next hi.typeIs entry_tupleiter_next ?_ (args_tupleiter_next _)))
 show wpAny _ _ (field (.ref it) 0 >>= _) _ _ s
 refine wpAny_bind (wpAny_field o1 o3 (x:=.ref t) rfl ?_)
 show wpAny _ _ (if (Value.ref t==Value.none)=true then _ else _) _ _ s
 rw[if_neg (show ¬ ((Value.ref t==Value.none)=true) from λz=>Bool.false_ne_true z)]
 show wpAny _ _ (field (.ref it) 1 >>= _) _ _ s
 refine wpAny_bind (wpAny_field o1 o3 (x:=.int i 0) rfl ?_)
 show wpAny _ _ (seqItems? (.ref t) >>= _) _ _ s
 refine wpAny_bind (wpAny_seqItems p1 p2 ?_);simp only[hx,toNat_natCast]
 refine wpAny_bind (wpAny_rule (wpAny_bind (wpAny_setField o1 o3 (by simp) ?_)))
 show wpAny _ _ (newExc (.type "StopIteration") [] >>= _) _ _ _
 refine wpAny_bind ?_;simp only[newTuple,newExc]
 refine wpAny_bind (wpAny_newObj_type ?_ (by size_fits));refine wpAny_bind (m:=firstArgMember _ _) (wpAny_of_eq (a:=Value.none) (by first |rfl | (simp only[firstArgMember];rfl)) ?_)
 refine wpAny_newObj_type ?_ (by size_fits);simp only[raiseNew]
 refine wpAny_bind (wpAny_handled ?_);first |rw[show A.in1.handled=none from hh] |rw[hh]
 exact wpAny_bind (wpAny_pure (wpAny_throw (q _ _ (((Heap.SameBut.update ..).extBut.push _).push _) ⟨_,get?_push_size _ rfl,rfl⟩)))
theorem Yc5 {t:Addr}{a b x:Value}{k:Nat}{Q:Unit->Shared->Prop}(ht:P2 s.heap t a b)
  (q:∀g,g.get? t=some {cls:=.type "tuple",data:=.seq ((#[a,b]:Array Value).setIfInBounds k x)}->Heap.SameBut t s.heap g->Q () {s with heap:=g}):wpAny (model prog w) A (updateSeq t (·.setIfInBounds k x)) Q E s:=by
 refine wpAny_updateSeq ht rfl (q _ ?_ (Heap.SameBut.update ..))
 rw[get?_update_self _ ht rfl];simp[Obj.mapSeq]
theorem Xwh {b k:Nat}{l1 l2:Addr}{xs ys:Array Value}{x y a1 a2:Value}{Q:Value->Shared->Prop}(hb:l1<b/\l2<b)
  (Z:Zt s.heap b .none) (I0:P2 s.heap (b+2) (.ref b) (.ref (b+1))) (O0:P2 s.heap (b+3) a1 a2) (w1:IsTupIter s.heap b l1 k) (w2:IsTupIter s.heap (b+1) l2 k)
  (p1:IsTup s.heap l1 xs) (p2:IsTup s.heap l2 ys) (e1:xs[k]?=some x) (e2:ys[k]?=some y)
  (q:∀g,Zt g b (rawInt s.heap.objs.size)->P2 g (b+3) x y->IsTupIter g b l1 (k+1)->IsTupIter g (b+1) l2 (k+1)->P2 g s.heap.objs.size x y->g.objs.size=s.heap.objs.size+1->
   (∀c o,c≠b+4->c≠b+3->c≠b->c≠b+1->s.heap.get? c=some o->g.get? c=some o)->Q (.ref s.heap.objs.size) {s with heap:=g}):
  wpAny (model prog w) A (Builtin.«zip.__next__» ⟨[.ref (b+4)],[]⟩) (λr s'=>∃v,r = .done (.ret v)/\Q v s') E s:=by
 obtain⟨b1,b2⟩:=hb
 have b1:(l1:Nat)<b:=b1
 have b2:(l2:Nat)<b:=b2
 have off:∀l:Nat,l<b->l≠b+4/\l≠b+3/\l≠b:=λl h=>⟨by omega,by omega,by omega⟩
 obtain⟨a14,_,_⟩:=off l1 b1
 obtain⟨a24,a23,a20⟩:=off l2 b2
 show wpAny _ _ (field (.ref (b+4)) 2 >>= _) _ _ _
 refine wpAny_bind (wpAny_field Z rfl (x:=.bool false) rfl ?_)
 show wpAny _ _ (field (.ref (b+4)) 3 >>= _) _ _ _
 refine wpAny_bind (wpAny_field Z rfl (x:=.ref (b+2)) rfl (wpAny_bind (wpAny_seqItems I0 rfl ?_)))
 show wpAny _ _ (Builtin.SmallTypes.ownedTupleIsFree (.ref (b+4)) >>= _) _ _ _
 refine wpAny_bind ?_
 unfold Builtin.SmallTypes.ownedTupleIsFree
 refine wpAny_bind (wpAny_field Z rfl (x:=.none) rfl (wpAny_pure ?_));simp only[if_true]
 refine wpAny_bind (wpAny_rule (wpAny_bind (wpAny_field Z rfl (x:=.ref (b+3)) rfl (wpAny_bind (wpAny_setField_rec Z (by simp) λg1 Z1 f1=>?_)))))
 replace Z1:Zt g1 b .ellipsis:=Z1
 refine wpAny_bind ?_
 simp only[forIn_cons,forIn_nil,List.zipIdx_cons,List.zipIdx_nil]
 refine wpAny_bind (wpAny_bind (wpAny_onRaise ?_))
 show wpAny _ _ (Builtin.SmallTypes.nextOf (.ref b) >>= _) _ _ _
 refine wpAny_bind (Xot (w1.extBut f1.extBut (adr (by omega))) (p1.extBut f1.extBut a14) e1 λg2 v1 f2=>wpAny_pure ?_)
 have O2:P2 g2 (b+3) a1 a2:=f2.extBut _ _ (adr (by omega)) (f1.extBut _ _ (adr (by omega)) O0)
 refine wpAny_bind (wpAny_seqItems O2 rfl (wpAny_bind (Yc5 O2 λg3 O3 f3=>wpAny_bind (wpAny_letGo (wpAny_pure ?_)))))
 replace O3:P2 g3 (b+3) x a2:=O3
 refine wpAny_bind (wpAny_bind (wpAny_onRaise ?_))
 show wpAny _ _ (Builtin.SmallTypes.nextOf (.ref (b+1)) >>= _) _ _ _
 refine wpAny_bind (Xot (((w2.extBut f1.extBut (adr (by omega))).extBut f2.extBut (adr (by omega))).extBut f3.extBut (adr (by omega))) (((p2.extBut f1.extBut a24).extBut f2.extBut a20).extBut f3.extBut a23) e2 λg4 v2 f4=>wpAny_pure ?_)
 have O4:P2 g4 (b+3) x a2:=f4.extBut _ _ (adr (by omega)) O3
 refine wpAny_bind (wpAny_seqItems O4 rfl (wpAny_bind (Yc5 O4 λg5 O5 f5=>wpAny_bind (wpAny_letGo (wpAny_pure (wpAny_pure ?_))))))
 replace O5:P2 g5 (b+3) x y:=O5
 refine wpAny_bind (wpAny_seqItems O5 rfl (wpAny_bind (wpAny_newTuple ?_)))
 have size:g5.objs.size=s.heap.objs.size:=by rw[f5.1,f4.1,f3.1,f2.1,f1.1]
 have Z5:Zt g5 b .ellipsis:=f5.extBut _ _ (adr (by omega)) (f4.extBut _ _ (adr (by omega)) (f3.extBut _ _ (adr (by omega)) (f2.extBut _ _ (adr (by omega)) Z1)))
 have keep:∀c o,c≠b+4->c≠b+3->c≠b->c≠b+1->s.heap.get? c=some o->g5.get? c=some o:=λc o c1 c2 c3 c4 e=>
  f5.extBut _ _ c2 (f4.extBut _ _ c4 (f3.extBut _ _ c2 (f2.extBut _ _ c3 (f1.extBut _ _ c1 e))))
 have m1:IsTupIter g5 b l1 (k+1):=((v1.extBut f3.extBut (adr (by omega))).extBut f4.extBut (adr (by omega))).extBut f5.extBut (adr (by omega))
 have m2:IsTupIter g5 (b+1) l2 (k+1):=v2.extBut f5.extBut (adr (by omega))
 have zlt:b+4<g5.objs.size:=lt_size Z5
 show wpAny _ _ (Builtin.SmallTypes.ownedTupleHandOut (.ref (b+4)) (.ref g5.objs.size) >>= _) _ _ _
 refine wpAny_bind ?_
 unfold Builtin.SmallTypes.ownedTupleHandOut
 have Z8:Zt (g5.push {cls:=.type "tuple",data:=.seq #[x,y]}) b .ellipsis:=get?_push_of_some _ Z5
 refine wpAny_bind (wpAny_setField_rec Z8 (by simp) λg9 Z9 f9=>?_)
 replace Z9:Zt g9 b (rawInt g5.objs.size):=Z9
 refine wpAny_setField_rec Z9 (by simp) λg10 Z10 f10=>?_
 replace Z10:Zt g10 b (rawInt g5.objs.size):=Z10
 have up:∀c o,c≠b+4->g5.get? c=some o->g10.get? c=some o:=λc o c1 e=>f10.extBut _ _ c1 (f9.extBut _ _ c1 (get?_push_of_some _ e))
 have T10:P2 g10 g5.objs.size x y:=f10.extBut _ _ (ne_of_gt zlt) (f9.extBut _ _ (ne_of_gt zlt) (get?_push_size _ rfl))
 have sz10:g10.objs.size=g5.objs.size+1:=by rw[f10.1,f9.1,size_push]
 rw[size]at Z10 T10 sz10
 refine wpAny_pure ⟨_,rfl,?_⟩
 show Q (.ref g5.objs.size) _
 rw[size]
 exact q g10 Z10 (up _ _ (adr (by omega)) O5) (Xf3 m1 λo e=>up _ o (adr (by omega)) e) (Xf3 m2 λo e=>up _ o (adr (by omega)) e) T10 sz10 λc o c1 c2 c3 c4 e=>up c o c1 (keep c o c1 c2 c3 c4 e)
theorem Xwg {b k:Nat}{l1:Addr}{xs:Array Value}{i2:Value}{Q:Fin->Shared->Prop}(hh:A.handled=none)(hb:l1<b)(Z:Zt s.heap b .none)(I0:P2 s.heap (b+2) (.ref b) i2)(w1:IsTupIter s.heap b l1 k)(p1:IsTup s.heap l1 xs)(e1:xs[k]?=none)
  (q:∀g e,(∀c o,c≠b+4->c≠b->s.heap.get? c=some o->g.get? c=some o)->(∃o,g.get? e=some o/\o.cls = .type "StopIteration")->E (.ref e) {s with heap:=g}):wpAny (model prog w) A (Builtin.«zip.__next__» ⟨[.ref (b+4)],[]⟩) Q E s:=by
 have a14:l1≠b+4:=ne_of_lt (lt_of_lt_of_le hb (Nat.le_add_right b 4))
 show wpAny _ _ (field (.ref (b+4)) 2 >>= _) _ _ _
 refine wpAny_bind (wpAny_field Z rfl (x:=.bool false) rfl ?_)
 show wpAny _ _ (field (.ref (b+4)) 3 >>= _) _ _ _
 refine wpAny_bind (wpAny_field Z rfl (x:=.ref (b+2)) rfl (wpAny_bind (wpAny_seqItems I0 rfl ?_)))
 show wpAny _ _ (Builtin.SmallTypes.ownedTupleIsFree (.ref (b+4)) >>= _) _ _ _
 refine wpAny_bind ?_
 unfold Builtin.SmallTypes.ownedTupleIsFree
 refine wpAny_bind (wpAny_field Z rfl (x:=.none) rfl (wpAny_pure ?_));simp only[if_true]
 refine wpAny_bind (wpAny_rule (wpAny_bind (wpAny_field Z rfl (x:=.ref (b+3)) rfl (wpAny_bind (wpAny_setField_rec Z (by simp) λg1 Z1 f1=>?_)))))
 replace Z1:Zt g1 b .ellipsis:=Z1
 refine wpAny_bind ?_
 simp only[forIn_cons,forIn_nil,List.zipIdx_cons,List.zipIdx_nil]
 refine wpAny_bind (wpAny_bind (wpAny_onRaise ?_))
 show wpAny _ _ (Builtin.SmallTypes.nextOf (.ref b) >>= _) _ _ _
 refine wpAny_bind (Xyo hh (w1.extBut f1.extBut (adr (by omega))) (p1.extBut f1.extBut a14) e1 λg2 e f2 he=>?_)
 obtain⟨oe,o1,o2⟩:=he
 have Z2:Zt g2 b .ellipsis:=f2 _ _ (adr (by omega)) Z1
 have ez:e≠b+4:=λy=>by subst y;rw[Z2]at o1;cases o1;simp at o2
 exact wpAny_setField_rec Z2 (by simp) λg3 _ f3=>q g3 e (λc o c1 c3 y=>f3.extBut _ _ c1 (f2 _ _ c3 (f1.extBut _ _ c1 y))) ⟨oe,f3.extBut _ _ ez o1,o2⟩
theorem Yfx {b k:Nat}{l1 l2:Addr}{xs ys:Array Value}{x y a1 a2:Value}{Q:Option Value->Shared->Prop}(hb:l1<b/\l2<b)
  (Z:Zt s.heap b .none) (I0:P2 s.heap (b+2) (.ref b) (.ref (b+1))) (O0:P2 s.heap (b+3) a1 a2) (w1:IsTupIter s.heap b l1 k) (w2:IsTupIter s.heap (b+1) l2 k)
  (p1:IsTup s.heap l1 xs) (p2:IsTup s.heap l2 ys) (e1:xs[k]?=some x) (e2:ys[k]?=some y)
  (q:∀g,Zt g b (rawInt s.heap.objs.size)->P2 g (b+3) x y->IsTupIter g b l1 (k+1)->IsTupIter g (b+1) l2 (k+1)->P2 g s.heap.objs.size x y->g.objs.size=s.heap.objs.size+1->
   (∀c o,c≠b+4->c≠b+3->c≠b->c≠b+1->s.heap.get? c=some o->g.get? c=some o)->Q (some (.ref s.heap.objs.size)) {s with heap:=g}):wpAny (model prog w) A (pyNext (.ref (b+4))) Q E s:=by
 have tz:s.TypeIs (.ref (b+4)) "zip":=⟨_,Z,rfl⟩
 unfold pyNext
 exact wpAny_bind (wpAny_attempt (wpAny_callSpecial?_slot (name:=Str.ofString "__next__") tz F.slot_zip_next (wpAny_call_entry F.slot_zip_next tz F.entry_zip_next
  (Xwh hb Z I0 O0 w1 w2 p1 p2 e1 e2 λg c1 c2 c3 c4 c5 c6 c7=>wpAny_pure (q g c1 c2 c3 c4 c5 c6 c7)) (F.args_zip_next_1 _))))
theorem Xs5 {b k:Nat}{l1:Addr}{xs:Array Value}{i2:Value}{Q:Option Value->Shared->Prop}(hh:A.handled=none)(hb:l1<b)(Z:Zt s.heap b .none)(I0:P2 s.heap (b+2) (.ref b) i2)(w1:IsTupIter s.heap b l1 k)(p1:IsTup s.heap l1 xs)(e1:xs[k]?=none)
  (q:∀g,(∀c o,c≠b+4->c≠b->s.heap.get? c=some o->g.get? c=some o)->Q none {s with heap:=g}):wpAny (model prog w) A (pyNext (.ref (b+4))) Q E s:=by
 have tz:s.TypeIs (.ref (b+4)) "zip":=⟨_,Z,rfl⟩
 unfold pyNext
 refine wpAny_bind (wpAny_attempt (wpAny_callSpecial?_slot (name:=Str.ofString "__next__") tz F.slot_zip_next (wpAny_call_entry F.slot_zip_next tz F.entry_zip_next (Xwg hh hb Z I0 w1 p1 e1 λg e k1 k2=>?_) (F.args_zip_next_1 _))))
 obtain⟨o,o1,o2⟩:=k2
 exact wpAny_bind (wpAny_isInstance (T := "StopIteration") (b:=true) ⟨o,o1,o2⟩ isSubtype_stop (wpAny_pure (q _ k1)))
end
abbrev wot (l:Addr):Obj:={cls:=.type "tuple_iterator",data:=.fields #[.ref l,.int 0 0]}
abbrev ztp (h:Heap)(l1:Addr):Heap:=h.push (wot l1)
abbrev ztq (h:Heap)(l1 l2:Addr):Heap:=(ztp h l1).push (wot l2)
abbrev zts (h:Heap)(l1 l2:Addr):Heap:=(ztq h l1 l2).push {cls:=.type "tuple",data:=.seq #[.ref h.objs.size,.ref (ztp h l1).objs.size]}
abbrev ztt (h:Heap)(l1 l2:Addr):Heap:=(zts h l1 l2).push {cls:=.type "tuple",data:=.seq #[.none,.none]}
abbrev ztu (h:Heap)(l1 l2:Addr):Heap:=(ztt h l1 l2).push {cls:=.type "zip",data:=.fields #[.none,.bool false,.bool false,.ref (ztq h l1 l2).objs.size,.ref (zts h l1 l2).objs.size]}
theorem Yah (l1 l2:Addr)(xs ys:Array Value):Meets (Builtin.«zip.__new__» ⟨[.type "zip",.ref l1,.ref l2],[]⟩) (λ_ R s=>IsTup s.heap l1 xs/\IsTup s.heap l2 ys/\R (.ok (.ret (.ref (ztt s.heap l1 l2).objs.size))) {s with heap:=ztu s.heap l1 l2}):=
 .of_wp λprog w A R s h=>by
  obtain⟨hp,g,d,tk,os⟩:=s;obtain⟨p1,p2,h⟩:=h
  have hsub:=sub_zip
  have n1:IsTup (Shared.heap ⟨hp,g,d,tk,os⟩) l1 xs:=p1
  have n2:IsTup (Shared.heap ⟨hp.push (wot l1),g,d,tk,os⟩) l2 ys:=IsTup.push p2 _
  wp_walk using iter_tuple n1,iter_tuple n2
  exact⟨_,rfl,h⟩
theorem Xz2 {prog:Program}{w:World}{A:Around}{E:Value->Shared->Prop}{s:Shared}{l1 l2:Addr}{xs ys:Array Value}{Q:Value->Shared->Prop}(p1:IsTup s.heap l1 xs)(p2:IsTup s.heap l2 ys)
  (q:∀g,Zt g s.heap.objs.size .none->P2 g (s.heap.objs.size+2) (.ref s.heap.objs.size) (.ref (s.heap.objs.size+1))->P2 g (s.heap.objs.size+3) .none .none->IsTupIter g s.heap.objs.size l1 0->IsTupIter g (s.heap.objs.size+1) l2 0->
   (∀c o,s.heap.get? c=some o->g.get? c=some o)->Q (.ref (s.heap.objs.size+4)) {s with heap:=g}):wpAny (model prog w) A (call (.type "zip") [.ref l1,.ref l2]) Q E s:=by
 refine callType_new F.called_zip (by decide) (F.typeCall_zip_2 _ _) (F.newCall_zip_2 _ _) (λo=>F.args_object_init_3 o _ _) F.entry_zip_new (Yah l1 l2 xs ys) ⟨p1,p2,?_⟩
 have y1:(ztp s.heap l1).objs.size=s.heap.objs.size+1:=size_push ..
 have y2:(ztq s.heap l1 l2).objs.size=s.heap.objs.size+2:=by rw[size_push,y1]
 have y3:(zts s.heap l1 l2).objs.size=s.heap.objs.size+3:=by rw[size_push,y2]
 have y4:(ztt s.heap l1 l2).objs.size=s.heap.objs.size+4:=by rw[size_push,y3]
 have on:∀{h:Heap} {o o':Obj} {c:Addr},h.get? c=some o->(h.push o').get? c=some o:=λe=>get?_push_of_some _ e
 have k5:(ztu s.heap l1 l2).get? (ztt s.heap l1 l2).objs.size=some _:=get?_push_size _ rfl
 have k4:(ztu s.heap l1 l2).get? (zts s.heap l1 l2).objs.size=some _:=on (get?_push_size _ rfl)
 have k3:(ztu s.heap l1 l2).get? (ztq s.heap l1 l2).objs.size=some _:=on (on (get?_push_size _ rfl))
 have k2:(ztu s.heap l1 l2).get? (ztp s.heap l1).objs.size=some _:=on (on (on (get?_push_size _ rfl)))
 have k1:(ztu s.heap l1 l2).get? s.heap.objs.size=some _:=on (on (on (on (get?_push_size _ rfl))))
 show _/\_
 rw[y2,y3,y4]at k5
 rw[y3]at k4
 rw[y1,y2]at k3
 rw[y1]at k2
 rw[y4]
 exact⟨⟨_,k5,rfl⟩,q _ k5 k3 k4 ⟨_,k1,rfl,rfl⟩ ⟨_,k2,rfl,rfl⟩ λc o e=>on (on (on (on (on e))))⟩
def Yj0 (As:DA):DA:=λδ P=>As δ λds=>match ds with
 | [.tup xs,.tup ys]=>xs.length<=ys.length/\P ((xs.zip ys).map λp=>D.tup [p.1,p.2])
 |_=>False
section
variable {X:Cx}{K:Frag}{mg:Str->Option Value}
def Ynf (K:Frag)(a1 a2:Addr)(xs ys:List V):It:=
 ⟨λi H=>SqT K H a1 xs/\SqT K H a2 ys/\i<xs.length/\i<ys.length,λi H x H'=>∃p y1 y2,x = .ref p/\H p=none/\Xbi H H'/\xs[i]?=some y1/\ys[i]?=some y2/\H' p=some (.tup [y1,y2]),λi H=>SqT K H a1 xs/\xs.length<=i⟩
theorem Ylt {b c:Nat}(h:c∈[b+4,b+2,b+3,b,b+1]):c=b+4∨c=b+2∨c=b+3∨c=b∨c=b+1:=by simpa using h
theorem Xwo {P:Program}{w:World}{K:Frag}{elts:List Expr}{x1:Nat}{tpos:Pos}(a1 a2:Addr)(b:Nat)(xs ys:List V)(hb:a1<b/\a2<b):
  Turn P w K (.Tuple elts x1 tpos) (Ynf K a1 a2 xs ys) [b+4,b+2,b+3,b,b+1] (b+4) (λi h=>Zt h b .none/\P2 h (b+2) (.ref b) (.ref (b+1))/\(∃c d,P2 h (b+3) c d)/\IsTupIter h b a1 i/\IsTupIter h (b+1) a2 i) where
 mem:=by simp
 obj:=λi h st c hc=>by
  obtain⟨h1,h2,⟨_,_,h3⟩,⟨o4,q4,_,r4⟩,⟨o5,q5,_,r5⟩⟩:=st
  rcases Ylt hc with q |q |q |q |q
  .rw [q];exact⟨_,h1,λv q=>by cases q⟩
  .rw [q];exact⟨_,h2,λv q=>by cases q⟩
  .rw [q];exact⟨_,h3,λv q=>by cases q⟩
  .rw [q];exact⟨_,q4,λv q=>by rw[r4]at q;cases q⟩
  .rw [q];exact⟨_,q5,λv q=>by rw[r5]at q;cases q⟩
 keep:=λi h h' st k=>by
  obtain⟨h1,h2,⟨c,d,h3⟩,h4,h5⟩:=st
  exact⟨k _ (by simp) _ h1,k _ (by simp) _ h2,⟨c,d,k _ (by simp) _ h3⟩,Xf3 h4 λo q=>k _ (by simp) o q,Xf3 h5 λo q=>k _ (by simp) o q⟩
 item := by
  kj_on
  obtain⟨h1,h2,⟨c,d,h3⟩,h4,h5⟩:=st
  obtain⟨hq1,hq2,hi1,hi2⟩:=hg
  obtain⟨its1,rv1,p1,hz1⟩:=I.tuple hq1
  obtain⟨its2,rv2,p2,hz2⟩:=I.tuple hq2
  obtain⟨u1,hu1,ru1⟩:=rv1.get (i:=i) (x:=xs[i]) (by simp[hi1])
  obtain⟨u2,hu2,ru2⟩:=rv2.get (i:=i) (x:=ys[i]) (by simp[hi2])
  refine Yfx hb h1 h2 h3 h4 h5 p1 p2 (x:=u1) (y:=u2) (by simpa using hu1) (by simpa using hu2) λh' g1 g2 g3 g4 g6 g7 g8=>?_
  refine⟨_,rfl,wpAny_letOwnedTupleGo_zip g1 λh'' k1 k2=>?_⟩
  have hf':=I.hok.fresh (Nat.le_refl _)
  have I0:Inv X pins Y (upd H s.heap.objs.size (.tup [xs[i],ys[i]])) {s with heap:=s.heap.push {cls:=.type "tuple",data:=.seq #[u1,u2]},toks:=s.toks}:=
   I.laid (t':=s.toks) (o:=.tup [xs[i],ys[i]]) (λb ob q=>get?_push_of_some _ q) (Nat.le_refl _) ⟨Xcj (n:=2) (by decide),[u1,u2],.cons ru1 (.cons ru2 .nil),⟨_,get?_push_size _ rfl,rfl,_,rfl⟩⟩
  have old:∀c∈[b+4,b+2,b+3,b,b+1],c≠s.heap.objs.size:=λc hc q=>by
   have hlt:c<s.heap.objs.size:=by
    rcases Ylt hc with y |y |y |y |y
    .rw [y];exact lt_size h1
    .rw [y];exact lt_size h2
    .rw [y];exact lt_size h3
    .obtain ⟨o,r1,_⟩:=h4
     rw[y];exact lt_size r1
    .obtain ⟨o,r1,_⟩:=h5
     rw[y];exact lt_size r1
   rw[q]at hlt
   exact lt_irrefl _ hlt
  have fe:∀c∈[b+4,b+2,b+3,b,b+1],Xn9 X pins (upd H s.heap.objs.size (.tup [xs[i],ys[i]])) c:=λc hc=>by
   obtain⟨q0,q1,q2,q3,q4,q5⟩:=hf c hc
   refine⟨?_,q1,q2,q3,q4,q5⟩
   rw[Xbv]
   .exact q0
   .exact old c hc
  have I1 : Inv X pins Y (upd H s.heap.objs.size (.tup [xs[i],ys[i]])) {s with heap:=h'',toks:=s.toks}:=by
   have:=I0.turnedL (h':=h'') (t':=s.toks) (L:=[b+4,b+3,b,b+1]) (λc o hb q=>?_) (λc hc=>fe c (by
    have hc':c=b+4∨c=b+3∨c=b∨c=b+1:=by simpa using hc
    rcases hc' with y |y |y |y<;>simp[y]))
   .exact this
   .have bz:c≠b+4:=λy=>hb (by simp[y])
    have hb2:h'.get? c=some o:=by
     by_cases y:c=s.heap.objs.size
     .subst y
      rw[get?_push_size _ rfl]at q
      rw[<- q];exact g6
     .rw [Heap.get?_push_ne _ _ _ y]at q
      exact g8 c o bz (λy=>hb (by simp[y])) (λy=>hb (by simp[y])) (λy=>hb (by simp[y])) q
    exact k2.extBut c o bz hb2
  have hT:P2 h' (b+2) _ _:=g8 (b+2) _ (adr (by omega)) (adr (by omega)) (adr (by omega)) (adr (by omega)) h2
  refine⟨.ref s.heap.objs.size,_,I1,rfl,⟨_,xs[i],ys[i],rfl,hf',Xbi.new hf',by simp[hi1],by simp[hi2],Xay⟩,⟨k1,k2.extBut _ _ (adr (by omega)) hT,⟨_,_,k2.extBut _ _ (adr (by omega)) g2⟩,g3.extBut k2.extBut (adr (by omega)),g4.extBut k2.extBut (adr (by omega))⟩,λc hc=>(fe c hc).1⟩
 done:=by
  kj_on
  obtain⟨h1,h2,_,h4,_⟩:=st
  obtain⟨hq1,hi⟩:=hg
  obtain⟨its1,rv1,p1,hz1⟩:=I.tuple hq1
  have hl1:=rv1.length
  refine Xs5 (I.ok.hd hc) hb.1 h1 h2 h4 p1 (by simp;omega) λh' eb=>⟨rfl,I.turnedL (t':=s.toks) (L:=[b+4,b]) (λc o hb q=>eb c o (λy=>hb (by simp[y])) (λy=>hb (by simp[y])) q) (λc hc=>hf c (by
    have hc':c=b+4∨c=b:=by simpa using hc
    rcases hc' with y |y<;>simp[y]))⟩
 self:=λ_ _ _ _ _ st h=>by
  obtain⟨h1,_⟩:=st
  exact wpAny_pyIter_zip h1 h
def Yjq (K:Frag)(ta:TA):TI:=λY H R=>ta Y H λvs H1=>∃a1 a2 xs ys,vs=[.ref a1,.ref a2]/\SqT K H1 a1 xs/\SqT K H1 a2 ys/\R (Ynf K a1 a2 xs ys) H1
theorem Yfh {elts:List Expr}{x1:Nat}{tpos:Pos}{l m:Expr}{ta:TA}{p pos:Pos}(hg:Gl X "zip")(hm:X.mg "zip"=none)(ha:PA X [l,m] ta)(hs:starEach [l,m] X.env=(false,eval l X.env)::starEach [m] X.env:=by rfl)(hp:(backTo pos (starEach [m] X.env)).any (·.1)=false:=by rfl):PI X (.Tuple elts x1 tpos) (.Call (.Name "zip" p) [l,m] [] pos) (Yjq X.K ta):=by
 intro pins s Y H R I h
 refine Call_ (Xkf I hg hm PyProof.Rows.boot_zip (PyProof.Rows.callWith_type1 (thn (ha pos pins s Y H _ I h) λus s1 ⟨vs,H1,I1,r1,q1⟩=>?_) hs hp))
 obtain⟨a1,a2,xs,ys,e,hq1,hq2,q⟩:=q1
 subst e
 obtain⟨u1,u2,rfl,ru1,ru2⟩:=Yd4 r1
 cases ru1
 cases ru2
 obtain⟨its1,rv1,pt1,hz1⟩:=I1.tuple hq1
 obtain⟨its2,rv2,pt2,hz2⟩:=I1.tuple hq2
 refine Xz2 pt1 pt2 λh' g1 g2 g3 g4 g5 g7=>?_
 have I2:Inv X pins Y H1 {s1 with heap:=h',toks:=s1.toks}:=I1.kept (t':=s1.toks) g7
 refine wpAny_pyIter_zip (s:={s1 with heap:=h',toks:=s1.toks}) g1 ?_
 refine⟨s1.heap.objs.size+4,_,_,_,H1,rfl,I2,Xwo a1 a2 s1.heap.objs.size xs ys ⟨pt1.lt,pt2.lt⟩,⟨g1,g2,⟨_,_,g3⟩,g4,g5⟩,λc hc=>?_,q⟩
 have hle:s1.heap.objs.size<=c:=by
  rcases Ylt hc with y |y |y |y |y<;>(rw[y];first |exact Nat.le_add_right _ _ |exact Nat.le_refl _)
 exact I1.fpOk hle (I1.hok.fresh hle)
theorem Yet {a:TA}{As:DA}(h:Xk7 K a As):Yb9 K (Yjq K a) (Yj0 As):=λF0 H0 F H Y δ P R e w q=>h F0 H0 F H Y δ _ _ e w λds vs F' H' p x r=>by
 try dsimp only at p
 split at p
 .rename_i xs ys
  obtain⟨le1,p⟩:=p
  obtain⟨v1,v2,rfl,⟨a1,us1,rfl,h1,h2⟩,⟨a2,us2,rfl,k1,k2⟩⟩:=Xxs r
  have hl1:=h2.length
  have hl2:=k2.length
  refine⟨a1,a2,us1,us2,rfl,x.fh.seqT h1,x.fh.seqT k1,q _ _ F' H' p x λF1 H1 s1 s2=>?_⟩
  have hq1:=(s1.trans s2).seqT h1
  have hq2:=(s1.trans s2).seqT k1
  have hlen:((xs.zip ys).map λp=>D.tup [p.1,p.2]).length=xs.length:=by simp;omega
  rw[hlen]
  refine⟨λi hi=>⟨hq1,hq2,by omega,by omega⟩,⟨hq1,by omega⟩,λi x H2 hi y=>?_⟩
  obtain⟨t,y1,y2,rfl,ht,sm,hy1,hy2,ht2⟩:=y
  obtain⟨d1,hd1,rd1⟩:=h2.get' hy1
  obtain⟨d2,hd2,rd2⟩:=k2.get' hy2
  refine⟨.tup [d1,d2],upd F1 t (.tup [y1,y2]),?_,Ext.new s2 ht sm ht2,t,[y1,y2],rfl,.inl (.inl Xay),?_⟩
  .rw [getElem?_map,List.getElem?_zip_eq_some (z:=(d1,d2)) |>.mpr ⟨hd1,hd2⟩]
   rfl
  .exact ⟨_,_,rfl,(rd1.mono s1).mono (Xbi.upd' (s2.free ht)),_,_,rfl,(rd2.mono s1).mono (Xbi.upd' (s2.free ht)),rfl⟩
 .exact p.elim
end
def Ykr (w:World)(K:Frag)(mg:Str->Option Value)(x:Str)(kds:List (Str×D)):Prop:=
 ∃a es n,mg x=some (.ref a)/\K.lookup a=some ⟨.type "dict",none,.dict es n,#[]⟩/\KeysLit w.params es.toList/\(a==sysModules)=false/\
  ∀k,match kds.lookup k with
   |some d=>∃b,findBy Value.isStrOf es k=some (.ref b)/\∀F,Rep K F d (.ref b)
   |none=>findBy Value.isStrOf es k=none
inductive DEs (K:Frag):List (Str×D)->List DictEntry->Prop
 |nil:DEs K [] []
 |cons {k:Str} {d:D} {hs:Int} {t:Tok} {b:Addr} {kds:List (Str×D)} {es:List DictEntry}:(∀F,Rep K F d (.ref b))->DEs K kds es->DEs K ((k,d)::kds) (⟨hs,.str k t,.ref b⟩::es)
theorem DEs.find {K:Frag}{kds:List (Str×D)}{es:List DictEntry}(r:DEs K kds es)(k:Str):match kds.lookup k with
   |some d=>∃b,(es.find? λe=>Value.isStrOf k e.key).map (·.val)=some (.ref b)/\∀F,Rep K F d (.ref b)
   |none=>(es.find? λe=>Value.isStrOf k e.key).map (·.val)=none:=by
 induction r with
 |nil=>rfl
 | @cons k' d hs t b kds es h r ih=>
  by_cases z:k'=k
  .subst z
   rw[lookup_cons,beq_self_eq_true]
   refine⟨b,?_,h⟩
   rw[List.find?_cons_of_pos (by show (k'==k')=true;exact beq_self_eq_true _)]
   rfl
  .have h1:(k==k')=false:=beq_eq_false_iff_ne.mpr (Ne.symm z)
   have h2:(k'==k)=false:=beq_eq_false_iff_ne.mpr z
   rw[lookup_cons,h1,List.find?_cons_of_neg (by show ¬ (k'==k)=true;rw[h2];exact Bool.false_ne_true)]
   exact ih
theorem Ygt {w:World}{K:Frag}{mg:Str->Option Value}{x:Str}{kds:List (Str×D)}{a:Addr}{es:List DictEntry}{n:Nat}(e:mg x=some (.ref a))(lk:K.lookup a=some ⟨.type "dict",none,.dict es.toArray n,#[]⟩)
  (kl:KeysLit w.params es) (sm:(a==sysModules)=false) (r:DEs K kds es):Ykr w K mg x kds:=
 ⟨a,es.toArray,n,e,lk,kl,sm,λk=>by
  have h:=r.find k
  unfold findBy
  rw[List.find?_toArray]
  exact h⟩
def Xwt (kds:List (Str×D))(ty:TE):TE:=λY H Q=>ty Y H λy H1=>∃k,y = .str k/\Q (.bl (kds.lookup k).isNone) H1
def Yd8 (K:Frag)(kds:List (Str×D))(ty:TE):TE:=λY H Q=>ty Y H λy H1=>∃k d,y = .str k/\kds.lookup k=some d/\∀v,(∀F,Rep K F d v)->Q v H1
def Xzw (kds:List (Str×D))(E:DE):DE:=λδ P=>E δ λd=>match d with
 | .str k=>P (.bl (kds.lookup k).isNone)
 |_=>False
def Ykc (kds:List (Str×D))(E:DE):DE:=λδ P=>E δ λd=>match d with
 | .str k=>∃d,kds.lookup k=some d/\P d
 |_=>False
section
variable {X:Cx}{K:Frag}{x:Str}{kds:List (Str×D)}{i:Expr}{ty:TE}{pos pos':Pos}
theorem Xx8 (hg:Gl X x)(hm:Ykr X.w X.K X.mg x kds)(hi:PE X i ty)(hd:(x==("__debug__":Str))=false:=by decide):PC X .NotIn i (.Name x pos) (Xwt kds ty):=by
 intro pins s Y H Q I h
 obtain⟨a,es,n,e,lk,kl,sm,fnd⟩:=hm
 refine thn (hi pins s Y H _ I h) λiv s1 ⟨y,H1,I1,ry,k,ey,q1⟩=>?_
 subst ey
 refine thn (Xjo (v:=.ref a) hg e rfl hd pins s1 Y H1 (λx H2=>x = .ref a/\Q (.bl (kds.lookup k).isNone) H2) I1 ⟨rfl,q1⟩) λu s2 ⟨x,H2,I2,rx,ex,q2⟩=>?_
 subst ex
 obtain rfl:u=Value.ref a:=rx
 obtain⟨t,rfl⟩:=ry
 refine wpAny_notIn_of (strKind_is X.prog X.w k t) sm (mapOf_K (prog:=X.prog) (w:=X.w) I2.kIn lk kl) ?_
 refine⟨.bl (kds.lookup k).isNone,H2,I2.tok _,?_,q2⟩
 have f:=fnd k
 split at f
 .rename_i d hl
  obtain⟨b,f1,_⟩:=f
  rw[hl]
  show Value.bool (!(findBy Value.isStrOf es k).isSome)=_
  rw[f1];rfl
 .rename_i hl
  rw[hl]
  show Value.bool (!(findBy Value.isStrOf es k).isSome)=_
  rw[f];rfl
theorem Yfm (hg:Gl X x)(hm:Ykr X.w X.K X.mg x kds)(hi:PE X i ty)(hs:Yad i)(hd:(x==("__debug__":Str))=false:=by decide):PE X (.Subscript (.Name x pos') i pos) (Yd8 X.K kds ty):=by
 intro pins s Y H Q I h
 obtain⟨a,es,n,e,lk,kl,sm,fnd⟩:=hm
 refine Subscript_ (thn (Xjo (v:=.ref a) hg e rfl hd pins s Y H (λx H2=>x = .ref a/\Yd8 X.K kds ty Y H2 Q) I ⟨rfl,h⟩) λu s1 ⟨x,H1,I1,rx,ex,q1⟩=>?_)
 subst ex
 obtain rfl:u=Value.ref a:=rx
 refine thn (hi pins s1 Y H1 _ I1 q1) λiv s2 ⟨y,H2,I2,ry,k,d,ey,hl,q2⟩=>?_
 subst ey
 obtain⟨t,rfl⟩:=ry
 have f:=fnd k
 rw[hl]at f
 obtain⟨b,f1,f2⟩:=f
 have hm:=mapOf_K (prog:=X.prog) (w:=X.w) I2.kIn lk kl
 exact tail_any hm.typeIs slot_dict_getitem.lookup (wpAny_getItem_of (strKind_is X.prog X.w k t) hm f1 ⟨.ref b,H2,I2.tok _,rfl,q2 _ f2⟩) (hs _ _)
theorem Xxo {t:TE}{E:DE}(h:Xeh K t E):Xeh K (Xwt kds t) (Xzw kds E):=λF0 H0 F H Y δ P Q e w q=>h F0 H0 F H Y δ _ _ e w λd v F' H' p x r=>by
 try dsimp only at p
 split at p
 .obtain rfl:v = .str _:=r
  exact⟨_,rfl,q _ _ F' H' p x rfl⟩
 .exact p.elim
theorem Yey {t:TE}{E:DE}(h:Xeh K t E):Xeh K (Yd8 K kds t) (Ykc kds E):=λF0 H0 F H Y δ P Q e w q=>h F0 H0 F H Y δ _ _ e w λd v F' H' p x r=>by
 try dsimp only at p
 split at p
 .obtain rfl:v = .str _:=r
  obtain⟨d',hl,p⟩:=p
  exact⟨_,d',rfl,hl,λu hu=>q _ _ F' H' p x (hu F')⟩
 .exact p.elim
end
def Yhc:List Str->List (Option Nat)->List Str
 |x::N,some _::ix=>x::Yhc N ix
 |_::N,none::ix=>Yhc N ix
 |_,_=>[]
theorem Xb2.mem {X:Cx}{scope:Scope}:∀{N:List Str} {ix:List (Option Nat)},Xb2 X scope N ix->∀x∈Yhc N ix,X.env.kindOf x=some .cell∨X.env.kindOf x=some .free
 | [],[],_,x,hx=>by cases hx
 |y::N,none::ix,h,x,hx=>Xb2.mem (show Xb2 X scope N ix from h) x hx
 |y::N,some i::ix,h,x,hx=>by
  obtain⟨h0,h1⟩:=(show (X.N[i]?=some y/\scope.names.lookup y=some .free/\(X.env.kindOf y=some .cell∨X.env.kindOf y=some .free))/\Xb2 X scope N ix from h)
  rcases mem_cons.mp (show x∈y::Yhc N ix from hx) with z |z
  .rw [z];exact h0.2.2
  .exact Xb2.mem h1 x z
 | [],_::_,h,_,_=>h.elim
 |_::_,[],h,_,_=>by cases h
theorem BlkScope.ofCap {X:Cx}{sc:Scope}{N:List Str}{ix:List (Option Nat)}(cap:Xb2 X sc N ix)(h1:sc.kind = .function)(h2:∀y∈sc.names,y.2≠.cell)(h3:∀y∈sc.names,y.2 = .free->y.1∈Yhc N ix)(h4:∀y∈sc.names,y.2 = .local->sc.names.lookup y.1=some .local):BlkScope X.env.scope sc:=
 ⟨h1,h2,λy hy e=>cap.mem y.1 (h3 y hy e),h4⟩
abbrev Yb4:Obj:={cls:=.type "cell",data:=.cell none}
structure Blk1 (outer scope:Scope) (z:Str):Prop where
 kind:scope.kind = .function
 lay:∀n acc,cellsFrom n scope.names acc=(z,n)::acc
 push:∀h,pushCells h scope.names=h.push Yb4
 cell:∀y∈scope.names,y.2 = .cell->y.1=z
 look:scope.names.lookup z=some .cell
 nofr:∀y∈scope.names,y.2 = .free->y.1≠z
 free:∀y∈scope.names,y.2 = .free->outer.names.lookup y.1=some .cell∨outer.names.lookup y.1=some .free
 names:∀y∈scope.names,y.2 = .local->scope.names.lookup y.1=some .local
abbrev Cx.blk1 (X:Cx)(scope:Scope)(z:Str)(N:List Str)(fp:List Addr)(s:Shared)(H:Hp):Cx:=
 {X with N:=N,s₀:=s,H₀:=H,env:=compEnvC scope ((z,s.heap.objs.size+1)::Xii scope X.env) s.heap.objs.size X.env,outer:=X.stack,ex:=fp,fn:=λx=>x==z,pn:=[],xe:=λ_ _=>False}
section
variable {M:Model}{A:Around}{E:Value->Shared->Prop}{s:Shared}
theorem Yfz {scope outerS:Scope}{z:Str}{globals:Addr}{cl:List (Str×Addr)}{qual:Str}{outer:Env}{Q:Env->Shared->Prop}(S:Blk1 outerS scope z)
  (hQ:Q {scope,locals:=s.heap.objs.size,globals,cells:=(z,s.heap.objs.size+1)::cl,qual,func:=none,code:=outer.code,frame:=outer.frame,builtins:=outer.builtins} {s with heap:=(s.heap.push {cls:=.type "dict",data:=.dict #[]}).push Yb4}):
  wpAny M A (newFunctionEnv scope globals cl [] qual none .none (some outer)) Q E s:=by
 simp only[newFunctionEnv,Option.isSome_some,if_true]
 refine wpAny_bind (wpAny_alloc ?_)
 refine wpAny_bind (wpAny_layCells _ (λname kind cells=>by cases hkc:kind==NameKind.cell<;>simp[hkc]) _ _ _ _ ?_)
 rw[S.lay,S.push]
 rw[show ({s with heap:=s.heap.push {cls:=.type "dict",data:=.dict #[]}}:Shared).heap.objs.size=s.heap.objs.size+1 from size_push ..]
 refine wpAny_bind ?_
 rw[forIn_nil]
 exact wpAny_pure (wpAny_pure hQ)
end
section
variable {X:Cx}{pins:List (Addr×Obj)}{Y:St}{H:Hp}{s:Shared}{scope:Scope}{N:List Str}{ix:List (Option Nat)}{fp:List Addr}{z:Str}
theorem Xf0 (ok:X.Ok)(hf:∀y∈scope.names,y.2 = .free->X.env.scope.names.lookup y.1=some .cell∨X.env.scope.names.lookup y.1=some .free){x:Str}{c:Addr}(h:(Xii scope X.env).lookup x=some c):X.env.cells.lookup x=some c:=by
 rw[Xih]at h
 split at h
 .rename_i ha
  obtain⟨y,hy,e⟩:=any_eq_true.mp ha
  rw[and_eq_true,beq_iff_eq,beq_iff_eq]at e
  obtain⟨e1,e2⟩:=e
  subst e1
  obtain⟨c',hc'⟩:=ok.has y.1 (hf y hy e2)
  rw[hc']at h ⊢
  exact h
 .cases h
theorem Xs8 {x:Str}{a c:Addr}{l:List (Str×Addr)}(h:((z,a)::l).lookup x=some c):(x=z/\c=a)∨(x≠z/\l.lookup x=some c):=by
 rw[lookup_cons]at h
 by_cases q:x=z
 .subst q
  rw[beq_self_eq_true]at h
  exact .inl ⟨rfl,(Option.some.inj h).symm⟩
 .rw [beq_eq_false_iff_ne.mpr q]at h
  exact .inr ⟨q,h⟩
theorem Xul {x:Str}{a:Addr}{l:List (Str×Addr)}(h:x≠z):((z,a)::l).lookup x=l.lookup x:=by
 rw[lookup_cons,beq_eq_false_iff_ne.mpr h]
theorem Inv.blk1Ok (I:Inv X pins Y H s)(S:Blk1 X.env.scope scope z)(hf:∀b∈fp,Xn9 X pins H b)(hlt:∀b∈fp,b<s.heap.objs.size):(X.blk1 scope z N fp s H).Ok where
 mod:=I.ok.mod
 kind:=S.kind
 glob:=I.ok.glob
 blt:=I.ok.blt
 above:=Nat.le_refl _
 inj := λx y c h1 h2=>by
  have old:∀{x:Str},(Xii scope X.env).lookup x=some c->c<s.heap.objs.size:=λ{x} h=>by
   obtain⟨v,q⟩:=I.cell x c (Xf0 I.ok S.free h)
   exact q.lt
  rcases Xs8 h1 with⟨a1,a2⟩ | ⟨a1,a2⟩<;>rcases Xs8 h2 with⟨b1,b2⟩ | ⟨b1,b2⟩
  .rw [a1,b1]
  .have q:=old b2;rw[a2]at q;exact absurd (Nat.lt_of_succ_lt q) (lt_irrefl _)
  .have q:=old a2;rw[b2]at q;exact absurd (Nat.lt_of_succ_lt q) (lt_irrefl _)
  .exact I.ok.inj x y c (Xf0 I.ok S.free a2) (Xf0 I.ok S.free b2)
 has := λx hx=>by
  by_cases q:x=z
  .subst q
   exact⟨_,by show List.lookup x ((x,s.heap.objs.size+1)::_)=_;rw[lookup_cons,beq_self_eq_true]⟩
  have hx':(relabel scope X.env).names.lookup x=some .cell∨(relabel scope X.env).names.lookup x=some .free:=hx
  rw[Xex]at hx'
  cases e:scope.names.lookup x with
  |none=>rw[e]at hx';simp at hx'
  |some k=>
   have hm:=PySem.mem_of_lookup e
   have hk:k = .free:=by
    by_cases hk:k = .free
    .exact hk
    .exfalso
     have hb:(k==NameKind.free)=false:=by simpa using hk
     have hc:k≠.cell:=λy=>q (S.cell _ hm y)
     have e2:(if (k==NameKind.free && X.env.scope.kind == .function && X.env.kindOf x==some .cell)=true then NameKind.cell else k)=k:=if_neg (by rw[hb,Bool.false_and,Bool.false_and];exact Bool.false_ne_true)
     rw[e,map_some,e2]at hx'
     rcases hx' with z |z
     .exact hc (Option.some.inj z)
     .exact hk (Option.some.inj z)
   subst hk
   obtain⟨c,h1,_⟩:=Xl3 I.ok e (S.free _ hm rfl)
   exact⟨c,(Xul q).trans h1⟩
 cab:=λx c h e=>by
  rcases Xs8 e with⟨_,a2⟩ | ⟨a1,_⟩
  .rw [a2];exact le_succ _
  .exact absurd (beq_iff_eq.mp h) a1
 hd:=I.ok.hd
 frames:=I.ok.frames
 stk:=.inl rfl
 exf:=λb hb=>⟨ne_of_lt (hlt b hb),λx c h=>by
  rcases Xs8 h with⟨_,a2⟩ | ⟨_,a2⟩
  .intro q;have q2:=hlt b hb;rw[<- q,a2]at q2;exact absurd (Nat.lt_of_succ_lt q2) (lt_irrefl _)
  .exact (hf b hb).2.2.2.2.1 x c (Xf0 I.ok S.free a2)⟩
 bs:=I.bs
 bsz:=le_trans I.ok.bsz I.sz
 noex:=λb o e hb=>by
  rcases (hf b hb).2.2.2.1 with z |z
  .exact I.ok.noex b o e z
  .exact absurd (lt_of_lt_of_le (lt_size e) (le_trans I.ok.bsz z)) (lt_irrefl _)
 exfs:=λb hb h=>by
  rcases mem_cons.mp (I.stkSub b h) with z |z
  .exact (hf b hb).2.1 z
  .exact (hf b hb).2.2.1 z
 funs:=I.stack
 frf:=I.stkFree
theorem Inv.blk1 {h₁:Heap}{t:Nat}(I:Inv X pins Y H s)(S:Blk1 X.env.scope scope z)(cap:Xb2 X scope N ix)(hf:∀b∈fp,Xn9 X pins H b)(hlt:∀b∈fp,b<s.heap.objs.size)
  (hns:h₁.Ns s.heap.objs.size λ_=>none) (hcl:h₁.IsCell (s.heap.objs.size+1) none) (keep:∀b o,s.heap.get? b=some o->h₁.get? b=some o):Inv (X.blk1 scope z N fp s H) [] (Xlv ix Y) H {s with heap:=h₁,toks:=t}:=by
 obtain⟨hl,hcap⟩:=cap.get
 refine⟨I.blk1Ok S hf hlt,rfl,I.bare,Un.kept keep,⟨_,hns,λj x v e1 e2 e3=>?_⟩,λx c e=>?_,I.hok.fresh (Nat.le_refl _),λx c e=>?_,λp hp=>absurd (show p∈([]:List (Addr×Obj)) from hp) (by simp),I.hok.kept keep,by unfold Xlv;rw[length_map];exact hl.symm⟩
 .obtain ⟨i,h1,h2⟩:∃i,ix[j]?=some (some i)/\Y[i]?=some (some v):=by
   unfold Xlv at e2
   rw[getElem?_map]at e2
   cases q:ix[j]? with
   |none=>rw[q]at e2;cases e2
   |some o=>
    rw[q]at e2
    cases o with
    |none=>simp at e2
    |some i=>
     refine⟨i,rfl,?_⟩
     cases q2:Y[i]? with
     |none=>simp[q2]at e2
     |some o2=>simp[q2]at e2;rw[e2]
  obtain⟨y,n1,n2,n3,n4⟩:=hcap j i h1
  have hxy:x=y:=by rw[e1]at n1;exact Option.some.inj n1
  subst hxy
  have hxz:x≠z:=S.nofr _ (PySem.mem_of_lookup n3) rfl
  obtain⟨m',hn',hl'⟩:=I.loc
  have vis:Vis X.env.scope x:=by rcases n4 with k |k;exact .inr (.inl k);exact .inr (.inr k)
  obtain⟨u,r,l⟩:=hl' i x v n2 h2 vis
  refine⟨u,r,.inr ⟨?_,?_⟩⟩
  .show (relabel scope X.env).names.lookup x=some .cell∨(relabel scope X.env).names.lookup x=some .free
   rw[Xex,n3]
   by_cases hc:(NameKind.free==NameKind.free && X.env.scope.kind == .function && X.env.kindOf x==some .cell)=true
   .left;simp only[map_some,if_pos hc]
   .right;simp only[map_some,if_neg hc]
  .obtain ⟨c,c1,c2⟩:=Xl3 I.ok n3 n4
   refine⟨c,(Xul hxz).trans c1,?_⟩
   rcases l with⟨hk,_⟩ | ⟨_,c',hc',z⟩
   .exfalso
    rcases n4 with k |k
    .rw [hk]at k;cases k
    .rw [hk]at k;cases k
   .rw [c2]at hc';cases hc'
    obtain⟨ob,ho,hd⟩:=z
    exact⟨ob,keep _ _ ho,hd⟩
 .rcases Xs8 e with⟨_,a2⟩ | ⟨_,a2⟩
  .rw [a2];exact⟨_,hcl⟩
  .obtain ⟨v,ob,ho,hd⟩:=I.cell x c (Xf0 I.ok S.free a2)
   exact⟨v,ob,keep _ _ ho,hd⟩
 .rcases Xs8 e with⟨_,a2⟩ | ⟨_,a2⟩
  .rw [a2];exact I.hok.fresh (le_succ _)
  .exact I.freeC x c (Xf0 I.ok S.free a2)
theorem Inv.unblk1 {pins':List (Addr×Obj)}{Y':St}{H':Hp}{s':Shared}(I:Inv X pins Y H s)(hf:∀b∈fp,Xn9 X pins H b)(J:Inv (X.blk1 scope z N fp s H) pins' Y' H' s'):Inv X pins Y H' s':=
 I.call' (ch:=fp) J.os J.base J.hok J.bare λb hb=>⟨(hf b hb).2.2.2.1,(hf b hb).2.1,(hf b hb).2.2.2.2.1,(hf b hb).2.2.2.2.2⟩
end
section
variable {X:Cx}{tg elt iter:Expr}{scope:Scope}{N:List Str}{ix:List (Option Nat)}{wi:TI}{g:TG}{te:TE}{pos:Pos}{z:Str}
theorem Xwb {pins:List (Addr×Obj)}{s:Shared}{Y:St}{H:Hp}{Q:VK}{RR:Value->Addr->Result->Shared->Prop}(hc:X.calm=true)(hi:PI X tg iter wi)(S:Blk1 X.env.scope scope z)(cap:Xb2 X scope N ix)
  (hg:∀fp s H,PG (X.blk1 scope z N fp s H) tg g) (he:∀fp s H,PE (X.blk1 scope z N fp s H) elt te) (I:Inv X pins Y H s) (h:Xqe wi ix g te Y H Q)
  (hRR:∀D C H' s',Inv X pins Y H' s'->Xn9 X pins H' C->(∃m,s'.heap.Ns C m)->Q (.ref D) H'->RR (.ref D) C (.ok .next) s'):
  wpAny (model X.prog X.w) X.A (eval iter X.env) (λx s₁=>wpAny (model X.prog X.w) X.A (pyIter x) (λit s₂=>wpAny (model X.prog X.w) X.A (newList []) (λacc s₃=>
   wpAny (model X.prog X.w) X.A (newFunctionEnv scope X.env.globals (Xii scope X.env) [] X.env.qual none .none (some X.env)) (λcenv s₄=>
    codeAny (model X.prog X.w) X.A (.compStart (.ListComp elt [⟨tg,iter,[],0⟩] scope pos) 0 it acc {cenv with scope:=relabel scope X.env}) (RR acc cenv.locals) s₄) X.xe s₃) X.xe s₂) X.xe s₁) X.xe s:=by
 refine thn (hi pins s Y H _ I h) λv s1 h1=>thn h1 λitv s2 h2=>?_
 obtain⟨it,fp,tn,J,H2,e,I2,T,st2,f2,R⟩:=h2
 subst e
 refine wpAny_newObj_type (Yfz S ?_)
 have I3:Inv X pins Y (upd H2 s2.heap.objs.size (.lst [])) {s2 with heap:=s2.heap.push {cls:=.type "list",data:=.seq ([]:List Value).toArray},toks:=s2.toks}:=I2.lnew .nil (zero_le _)
 have hD:H2 s2.heap.objs.size=none:=I2.fresh
 have lt2:∀b∈fp,b<s2.heap.objs.size:=λb hb=>by obtain⟨o,e,_⟩:=T.obj 0 _ st2 b hb;exact lt_size e
 obtain⟨W,⟨m0,w0⟩,turn⟩:=R s2.heap.objs.size hD
 generalize hs3:({s2 with heap:=s2.heap.push {cls:=.type "list",data:=.seq ([]:List Value).toArray},toks:=s2.toks}:Shared)=s3 at I3
 have e3:s3.heap=s2.heap.push {cls:=.type "list",data:=.seq ([]:List Value).toArray}:=by rw[<- hs3]
 have sz3:s3.heap.objs.size=s2.heap.objs.size+1:=by rw[e3,size_push]
 have f3:∀b∈fp,Xn9 X pins (upd H2 s2.heap.objs.size (.lst [])) b:=λb hb=>⟨by rw[Xbv (ne_of_lt (lt2 b hb))];exact (f2 b hb).1,(f2 b hb).2⟩
 have lt3:∀b∈fp,b<s3.heap.objs.size:=λb hb=>by rw[sz3];exact Nat.lt_succ_of_lt (lt2 b hb)
 generalize hh1:(s3.heap.push {cls:=.type "dict",data:=.dict #[]}).push Yb4=h₁
 have hns₁:h₁.Ns s3.heap.objs.size λ_=>none:=by
  rw[<- hh1]
  exact (Heap.Ns.new s3.heap (.type "dict")).keeps λb o e=>get?_push_of_some _ e
 have hcl₁:h₁.IsCell (s3.heap.objs.size+1) none:=by
  rw[<- hh1]
  have:=get?_push_size (s3.heap.push {cls:=.type "dict",data:=.dict #[]}) (o:=Yb4) rfl
  rw[size_push]at this
  exact⟨_,this,rfl⟩
 have kp3:∀b o,s3.heap.get? b=some o->h₁.get? b=some o:=λb o e=>by
  rw[<- hh1]
  exact get?_push_of_some _ (get?_push_of_some _ e)
 have J0:=I3.blk1 (N:=N) (ix:=ix) (fp:=fp) (t:=s3.toks) S cap f3 lt3 hns₁ hcl₁ kp3
 have keep1:∀b o,s2.heap.get? b=some o->h₁.get? b=some o:=λb o e=>kp3 b o (by rw[e3];exact get?_push_of_some _ e)
 have st1:tn 0 h₁:=T.keep 0 _ _ st2 λb _ o e=>keep1 b o e
 have stat:∀{H':Hp},(∀b∈fp,H' b=none)->∀b∈fp,Xn9 (X.blk1 scope z N fp s3 (upd H2 s2.heap.objs.size (.lst []))) [] H' b:=λ{H'} hn b hb=>by
  refine⟨hn b hb,ne_of_lt (lt3 b hb),λz=>?_,.inl hb,λx c e=>?_,λp hp=>absurd (show p∈([]:List (Addr×Obj)) from hp) (by simp)⟩
  .rcases mem_cons.mp (I3.stkSub b z) with y |y
   .exact (f2 b hb).2.1 y
   .exact (f2 b hb).2.2.1 y
  .rcases Xs8 e with⟨_,a2⟩ | ⟨_,a2⟩
   .intro q;have q2:=lt3 b hb;rw[<- q,a2]at q2;exact absurd (Nat.lt_of_succ_lt q2) (lt_irrefl _)
   .exact (f2 b hb).2.2.2.2.1 x c (Xf0 I.ok S.free a2)
 have loop:∀s4:Shared,s4={s3 with heap:=h₁,toks:=s3.toks}->
   codeAny (model X.prog X.w) X.A (.compLoop (.ListComp elt [⟨tg,iter,[],0⟩] scope pos) 0 (.ref it) (.ref s2.heap.objs.size) (compEnvC scope ((z,s3.heap.objs.size+1)::Xii scope X.env) s3.heap.objs.size X.env)) (RR (.ref s2.heap.objs.size) s3.heap.objs.size) s4:=by
  rintro s4 rfl
  refine Xlo (λn s'=>∃i Y' ys H',Inv (X.blk1 scope z N fp s3 (upd H2 s2.heap.objs.size (.lst []))) [] Y' H' s'/\tn i s'.heap/\(∀b∈fp,H' b=none)/\W i n Y' ys H') ?_ m0 ⟨0,_,[],_,J0,st1,λb hb=>(f3 b hb).1,w0⟩
  rintro n s' ⟨i,Y',ys,H',I',st',fr',w'⟩
  rcases turn i n Y' ys H' w' with⟨stop,fin⟩ | ⟨hy,go,step⟩
  .refine thn (T.done (X.blk1 scope z N fp s3 (upd H2 s2.heap.objs.size (.lst []))) rfl rfl rfl hc i [] s' Y' H' _ I' (stat fr') st' stop) λr s5 ⟨hr,I5⟩=>?_
   subst hr
   obtain⟨m,hn,_⟩:=I5.loc
   exact hRR _ _ H' s5 (I3.unblk1 f3 I5) (I3.fpOk (Nat.le_refl _) I5.free) ⟨m,hn⟩ fin
  .refine thn (T.item (X.blk1 scope z N fp s3 (upd H2 s2.heap.objs.size (.lst []))) rfl rfl rfl hc i [] s' Y' H' _ I' (stat fr') st' go) λr s5 ⟨u,hr,h5⟩=>?_
   subst hr
   refine thn h5 λ_ s6 ⟨x,H6,I6,r6,y6,st6,fr6⟩=>?_
   have I6':=I6.pinned (stat fr6) (T.obj _ _ st6)
   refine thn (hg fp s3 _ _ s6 Y' H6 x u _ I6' r6 (step x H6 y6)) λ_ s7 ⟨Y7,H7,I7,q7⟩=>?_
   refine thn (he fp s3 _ _ s7 Y7 H7 _ I7 q7) λyv s8 ⟨y,H8,I8,r8,hl8,m',hm',w8⟩=>?_
   refine thn (Xcw _ s8 Y7 H8 (.ref s2.heap.objs.size) [y] (.ref s2.heap.objs.size) [yv] (λ_ H9=>H9=upd H8 s2.heap.objs.size (.lst (ys++[y]))) I8 rfl (.cons r8 .nil) ⟨_,ys,y,rfl,rfl,hl8,hy,rfl⟩) λ_ s9 ⟨_,H9,I9,_,e9⟩=>?_
   subst e9
   refine⟨m',hm',i+1,Y7,ys++[y],_,I9.unpinned,T.keep _ _ _ st6 λb hb o e=>(I9.pin (b,o) (mem_append_right _ (mem_append_right _ (Xfj hb e)))).1,λb hb=>?_,w8⟩
   obtain⟨o,e,_⟩:=T.obj _ _ st6 b hb
   exact (I9.pin (b,o) (mem_append_right _ (mem_append_right _ (Xfj hb e)))).2.1
 have fin:=loop _ rfl
 exact codeAny_compStart_list fin (T.self _ 0 _ _ _ st1 fin)
theorem Xz9 (S:Blk1 X.env.scope scope z)(ok:X.Ok):closureFor scope X.env=pure (Xii scope X.env):=Xij λx hx e=>ok.has x.1 (S.free x hx e)
theorem Ybb (hc:X.calm=true)(hi:PI X tg iter wi)(S:Blk1 X.env.scope scope z)(cap:Xb2 X scope N ix)(hg:∀fp s H,PG (X.blk1 scope z N fp s H) tg g)(he:∀fp s H,PE (X.blk1 scope z N fp s H) elt te)
  (hs:∀x,foldedSetIterable iter X.env x=pure x:=by intro _;rfl):PE X (.ListComp elt [⟨tg,iter,[],0⟩] scope pos) (Xqe wi ix g te):=by
 intro pins s Y H Q I h
 rw[eval_ListComp]
 refine wpAny_comprehension_free (use:=none) rfl hs (Xz9 S I.ok) S.kind S.names (Xwb (RR:=λacc C=>compPost (model X.prog X.w) X.A X.xe none (EP X pins Y Q) acc C) hc hi S cap hg he I h λD C H' s' I' f' hn q=>?_)
 obtain⟨m,hn⟩:=hn
 exact⟨m,hn,λh' hs'=>⟨.ref D,H',I'.frameGone f' hs',rfl,q⟩⟩
theorem Yba (hc:X.calm=true)(hi:PI X tg iter wi)(cap:Xb2 X scope N ix)(h1:scope.kind = .function)(h2:∀y∈scope.names,y.2≠.cell)(h3:∀y∈scope.names,y.2 = .free->y.1∈Yhc N ix)(h4:∀y∈scope.names,y.2 = .local->scope.names.lookup y.1=some .local)
  (hg:∀fp s H,PG (X.blk scope N fp s H) tg g) (he:∀fp s H,PE (X.blk scope N fp s H) elt te)
  (hs:∀x,foldedSetIterable iter X.env x=pure x:=by intro _;rfl):PE X (.ListComp elt [⟨tg,iter,[],0⟩] scope pos) (Xqe wi ix g te):=Xda hc hi (BlkScope.ofCap cap h1 h2 h3 h4) cap hg he hs
end
section
variable {X:Cx}
end
section
variable {K:Frag}
end
def g1 {α:Type}(l r:List α):List α->List α->List α
 | [a],[b]=>a::(l++b::r)
 |_,_=>[]
section
variable {P:Program}{w:World}{K:Frag}{mg:Str->Option Value}{base:Heap}{x:Str}{k:Nat}{ps:List Str}{sp:Sp}{d0 d1:V}
end
section
variable {X:Cx}{x:Str}{k:Nat}{ps:List Str}{sp:Sp}{d0 d1:V}{e c:Expr}{t tk:TA}{p pos kp:Pos}{nm:Str}
end
section
variable {K:Frag}
end
section
variable {K:Frag}
end
section
variable {K:Frag}{F0 H0 F H F' H':Hp}{Y:St}{δ:Dst}{A:Nat->List Addr}{i:Nat}
end
section
variable {K:Frag}{c f m c2:Str}{ns ns2:List Str}{i j:Nat}
end
end L2
namespace PySem
section
variable {prog:Program}{w:World}{A:Around}{R:Result->Shared->Prop}{I:Addr}{fp wr:List Addr}{G:Array GenState->Array GenState->Prop}{n:Nat}{P:Nat->Value->Prop}{St:Nat->Shared->Prop}
end
section
variable {prog:Program}{w:World}{A:Around}{E:Value->Shared->Prop}{s:Shared}
end
end PySem
namespace L2
open PySem PySem.Spec PyProof.Rows
section
variable {X:Cx}
def rStrip:V->List V->Hp->VK->Prop:=λx vs H Q=>∃a b,x = .str a/\vs=[.str b]/\a.length<=sizeLine/\Q (.str (Txt.stripChars a b)) H
theorem Ybm:MtR X "str.strip" rStrip:=by
 intro pins s Y H x xs v us Q I rx r h
 obtain⟨a,b,rfl,rfl,hz,q⟩:=h
 obtain⟨t,rfl⟩:=rx
 obtain⟨u,rfl,ru⟩:=Xiy r
 obtain⟨t',rfl⟩:=ru
 exact PySem.W.KXw.stripChars rfl hz λt'' k=>⟨.str _,H,I.tok k,⟨_,rfl⟩,q⟩
end
def Ydq (E Ec:DE):DE:=λδ P=>E δ λd=>match d with
 | .str x=>Ec δ λl=>match l with
  | .str y=>x.length<=1000000/\P (.str (Txt.stripChars x y))
  |_=>False
 |_=>False
section
variable {K:Frag}{c f:Str}{ns:List Str}{i j:Nat}
theorem Yav {te ta:TE}{E El:DE}(h:Xgi K te E)(ha:Xgi K ta El):Xeh K (tBM K "str" rStrip te (Xiz ta Xqc)) (Ydq E El):=λF0 H0 F H Y δ P Q e w q=>h F0 H0 F H Y δ _ _ e w λd v F1 H1 w1 x1 r1=>by
 try dsimp only at w1
 split at w1
 .rename_i x
  cases (show v=V.str x from r1)
  refine⟨rfl,ha F0 H0 F1 H1 Y δ _ _ (e.on x1) w1 λl u F2 H2 w2 x2 r2=>?_⟩
  try dsimp only at w2
  split at w2
  .rename_i y
   cases (show u=V.str y from r2)
   exact⟨x,y,rfl,rfl,Xcj w2.1,q _ _ F2 H2 w2.2 (x1.trans x2) rfl⟩
  .exact w2.elim
 .exact w1.elim
end
end L2
namespace PySem.W
open PySem PySem.Spec PySem.Calls PyProof.Rows Builtin Builtin.ObjectAttr Builtin.Getset_descriptor
section
variable {prog:Program}{w:World}{A:Around}{E:Value->Shared->Prop}{s:Shared}{K:Frag}{x D:Addr}{ox:Obj}
theorem Xzm {M:Model}{h:Heap}{a g:Value}{name:Str}(X:K.In h)(ha:findIn K (.ref D) name=some (some a))(hn:specialIn K a "__get__"=some (some g))(htk:takesIn K a=some true):Looks M h (Builtin.ObjectAttr.find (.ref x) (.ref D) name) (.bind g a):=
 (looks_findIn (M:=M) X ha).andThen ((looks_specialIn (M:=M) X hn).andThen ((show Looks M h (Builtin.ObjectAttr.dataDescriptor? (some a) (some g)) (some (g,a)) from (looks_takesIn (M:=M) X htk).andThen .now).andThen (Looks.tag .now)))
theorem Xz0 {R:Result->Shared->Prop}{tp:Value}(X:K.In s.heap)(L0:Looks (model prog w) s.heap (typeOf (.ref x)) (.ref D))(hm:mroIn K D (.type "object")=some true)
  (h:R (.ok (.ret (.ref D))) s):codeAny (model prog w) A (.call (.builtin "getset_descriptor.__get__") ⟨[.builtin "object.__class__",.ref x,tp],[]⟩) R s:=by
 obtain⟨hh,g,dr,t,os⟩:=s
 have L1:=looks_mroIn (M:=model prog w) X hm
 refine codeAny_call_builtin KF.slot_gs.plain KF.entry_gs (KF.slot_gs.check _ _ _ _ _ _ _ _ KF.type_class (KF.args_gs _ _ _) ?_)
 unfold Builtin.«getset_descriptor.__get__» descrGet
 rw[dga_obj]
 refine wpAny_bind (wpAny_pure ?_)
 unfold descrGetter descrCheckInstance descrNameAndClass isInstance
 simp only[KF.owner_class]
 repeat lk
 refine⟨Code.quiet_builtin _ (by decide +kernel),codeAny_builtin KF.entry_class ?_⟩
 unfold Builtin.«object.__class__» shownTypeOf
 repeat lk
 exact h
theorem Xzp {Q:Option Value->Shared->Prop}(hga:findIn K (.ref D) "__getattribute__"=some (some (.builtin "BaseException.__getattribute__")))(hgg:findIn K (.ref D) "__getattr__"=some none)
  (hb:subIn K (.ref D) (.type "BaseException")=some true) (ha:findIn K (.ref D) "__class__"=some (some (.builtin "object.__class__")))
  (hn:specialIn K (.builtin "object.__class__") "__get__"=some (some (.builtin "getset_descriptor.__get__"))) (htk:takesIn K (.builtin "object.__class__")=some true) (hm:mroIn K D (.type "object")=some true)
  (X:K.In s.heap) (L0:Looks (model prog w) s.heap (typeOf (.ref x)) (.ref D)) (h:Q (some (.ref D)) {s with toks:=s.toks+1}):wpAny (model prog w) A (getAttr? (.ref x) "__class__") Q E s:=by
 obtain⟨hh,g,d,t,os⟩:=s
 have L1:=looks_findIn (M:=model prog w) X hga
 have L2:=looks_findIn (M:=model prog w) X hgg
 have L3:=Xzm (M:=model prog w) (x:=x) X ha hn htk
 have L4:=looks_subIn (M:=model prog w) X hb
 unfold getAttr? getAttrBy? getAttrBy
 refine wpAny_bind (wpAny_mkText (wpAny_bind (wpAny_attempt (wpAny_holding (wpAny_bind (L0.at (wpAny_bind (L1.at ?_))))))))
 show wpAny _ _ (getAttrByItsOwn _ _ _ _ _ _) _ _ _
 unfold getAttrByItsOwn
 show wpAny _ _ (typeLookup (.ref D) "__getattr__" >>= _) _ _ _
 refine wpAny_bind (L2.at ?_)
 have key:wpAny (model prog w) A (callGetattribute (Value.ref x) (Value.str (Str.ofString "__class__") t) (Value.builtin "BaseException.__getattribute__") false) (λv s'=>v = .ref D/\s'=⟨hh,g,d,t+1,os⟩) (λ_ _=>False) ⟨hh,g,d,t+1,os⟩:=by
  show wpAny _ _ (bindSpecial (Value.builtin "BaseException.__getattribute__") (.ref x) >>= _) _ _ _
  rw[PySem.F.excAttr_ValueError.ga.bind (.ref x)]
  refine wpAny_bind (wpAny_pure ?_)
  show wpAny _ _ (call (Value.builtin "BaseException.__getattribute__") [.ref x,.str (Str.ofString "__class__") t]) _ _ _
  refine wpAny_call (codeAny_call_builtin PySem.F.excAttr_ValueError.ga.plain PySem.F.entry_bexc_ga ?_)
  have hk:builtinKind "BaseException.__getattribute__"=some .slot:=by decide +kernel
  have hsplit:splitId "BaseException.__getattribute__"=some ("BaseException","__getattribute__"):=by decide +kernel
  have har:=PySem.F.args_bexc_ga (.ref x) (.str (Str.ofString "__class__") t)
  simp only[checkBuiltinCall,hk,hsplit]
  have LI:Looks (model prog w) hh (isInstance (.ref x) (.type "BaseException")) true:=L0.andThen L4
  refine wpAny_bind (LI.at ?_)
  simp only[Bool.not_true,false_eq_true,if_false]
  have hsg:wpAny (model prog w) A.in1 (match Manifest.signature? "BaseException.__getattribute__" with
     |some sig=>Bind.checkArgs "BaseException.__getattribute__" sig {pos:=[Value.ref x,Value.str (Str.ofString "__class__") t]}
     |x=>pure ()) (λ_ s'=>s'=⟨hh,g,d,t+1,os⟩) (λ_ _=>False) ⟨hh,g,d,t+1,os⟩:=by
   cases hsig:Manifest.signature? "BaseException.__getattribute__" with
   |none=>exact wpAny_pure rfl
   |some sig=>
    simp only[argsOk,hsig]at har
    show wpAny _ _ (Bind.checkArgs "BaseException.__getattribute__" sig _) _ _ _
    rw[har]
    exact wpAny_pure rfl
  refine wpAny_mono hsg (λ_ s' e=>?_) (λ_ _ z=>z)
  subst e
  unfold Builtin.«object.__getattribute__»
  repeat (any_goals (first |assumption | (refine wpAny_bind (L0.at ?_)) | (refine wpAny_bind (L3.at ?_)) |wp_step))
  exact Xz0 (s:=⟨hh,g,d,t+1,os⟩) X L0 hm (wpAny_pure ⟨rfl,rfl⟩)
 refine wpAny_bind (wpAny_attempt (wpAny_holding (wpAny_mono key (λv s' z=>?_) λ_ _ z=>z.elim)))
 obtain⟨rfl,rfl⟩:=z
 exact handed_on rfl (wpAny_pure h)
structure ExcK (K:Frag) (D:Addr):Prop where
 ga:findIn K (.ref D) "__getattribute__"=some (some (.builtin "BaseException.__getattribute__"))
 gg:findIn K (.ref D) "__getattr__"=some none
 cls:hasDictIn K D=true
 sub:subIn K (.ref D) (.type "BaseException")=some true
 attr:findIn K (.ref D) "__class__"=some (some (.builtin "object.__class__"))
 get:specialIn K (.builtin "object.__class__") "__get__"=some (some (.builtin "getset_descriptor.__get__"))
 takes:takesIn K (.builtin "object.__class__")=some true
 mro:mroIn K D (.type "object")=some true
theorem kitx_exc (Z:ExcK K D):KitX K (.ref x) (.ref D) (λh=>∃o,h.get? x=some o/\o.cls = .ref D) where
 ty:=λ_ _ _ ⟨o,h1,h2⟩=>h2▸(Looks.ld h1).andThen .now
 it:=λ_ _ X _=>by
  obtain⟨cdD,hcD,_⟩:=any_some Z.cls
  unfold clsIn at hcD
  split at hcD
  .rename_i c' d' cd' sl' ho
   intro A' Q' E' s' k q
   unfold isType loadHead
   exact wpAny_bind (wpAny_loadPart (k _ _ (X _ _ ho)) (wpAny_pure q))
  .cases hcD
 ne:=λh tp dd its n sl X htp=>by
  obtain⟨cdD,hcD,_⟩:=any_some Z.cls
  refine Bool.eq_false_iff.mpr λq=>?_
  have e:D=tp:=Value.ref.inj (beq_iff_eq.mp q)
  subst e
  unfold clsIn at hcD
  split at hcD
  .rename_i c' d' cd' sl' ho
   have z:=(X _ _ ho).symm.trans htp
   cases z
  .cases hcD
 ca:=λX ⟨o,h1,h2⟩ k=>Xzp Z.ga Z.gg Z.sub Z.attr Z.get Z.takes Z.mro X (h2▸(Looks.ld h1).andThen .now) k
end
end PySem.W
namespace L2
open PySem PySem.Spec PyProof.Rows PyProof.V PySem.W
def Yhl (K:Frag)(W:Addr)(ni:Nat)(sp:Sp)(t:TA)(th:TS):TS:=λD Y H=>t Y H λvs H1=>sp vs H1 (λ_ H2=>D.nx Y H2) λcls _ H2=>∃C,cls = .ref C/\exmOne K (.ref C) (.ref W)=some true/\
 ∀a,H2 a=none->th {nx:=λY' H'=>D.nx (Y'.set ni none) H',rt:=λ_ _=>False} (Y.set ni (some (.ref a))) (upd H2 a (.ext (Xtl a (.ref C))))
section
variable {X:Cx}
theorem Yfd {W:Addr}{g wx n:Str}{k ni:Nat}{ps:List Str}{sp:Sp}{e:Expr}{es:List Expr}{t:TA}{th:TS}{b₀:Stmt}{suite:List Stmt}{p np cpos epos hpos tpos:Pos}
  (hst:X.stack=X.env::X.outer) (hfl:X.env.frame=some X.env.locals) (hxe:∀e s',¬ X.xe e s') (C:CalX X.prog X.w X.K X.mg X.base g k ps sp) (hr:Room k X.A) (hg:Gl X g) (ha:PA X (e::es) t)
  (hgw:Gl X wx) (hmw:X.mg wx=some (.ref W)) (hN:X.N.Nodup) (hi:X.N[ni]?=some n) (hloc:X.env.scope.names.lookup n=some .local) (hnl:X.env.kindOf n=some .local) (hth:∀a,PSs (X.hdl a) (b₀::suite) th)
  (hdb:(g==("__debug__":Str))=false:=by decide) (hdw:(wx==("__debug__":Str))=false:=by decide) (he:starEach (e::es) X.env=(false,eval e X.env)::starEach es X.env:=by rfl) (hpl:(backTo cpos (starEach es X.env)).any (·.1)=false:=by rfl)
  (hsw:swapsWith (.Call (.Name g p) (e::es) [] cpos) none epos.line X.env=pure false:=by rfl):
  PS X (.Try [.Expr (.Call (.Name g p) (e::es) [] cpos) epos] [.ExceptHandler (some (.Name wx np)) (some n) (b₀::suite) hpos] [] [] tpos) (Yhl X.K W ni sp t th):=by
 intro pins s Y H D I h
 obtain⟨f,fd,F,hm,hk,hb⟩:=C.ex
 refine wpAny_Try_except ?_
 refine wpAny_execs_cons (wpAny_Expr_any (wpAny_Call_Name_kw (Xky I hg hm ?_ hdb)) I.quiet hsw)
 refine callWith_K (h₀:=X.base) I.ok.mod.kin hk (wpAny_mono (ha cpos pins s Y H _ I h) (λus s1 ⟨vs,H1,I1,r,q⟩=>⟨I1.kIn,?_⟩) λe s' z=>absurd z (hxe e s')) he hpl
 have hl:(us++[]).length=ps.length:=by rw[append_nil,<- r.length];exact F.len _ _ _ _ q
 have hbt:=hb s1 us I1.kIn hl
 rw[append_nil]at hbt
 refine wpAny_call (codeAny_mono (F.run X.A X.stack s1 H1 ⟨us,[]⟩ us vs _ _ hr I1.env0 hbt r q) λres s' hq=>?_)
 cases res with
 |ok fl=>
  cases fl with
  |ret u=>
   obtain⟨v,H',I',r',z⟩:=I1.after hq
   exact wpAny_execs_nil (wpAny_execs_nil ⟨Y,H',I',z⟩)
  |_=>exact False.elim hq
 |error ev=>
  obtain⟨a,C1,a0,B,H',rfl,⟨C2,hCe,hex,hth'⟩,fl,agree,un,hok,bare,hos,hna⟩:=hq
  cases hCe
  have hfr:X.A.frames=some (X.env::X.outer):=by rw[<- hst];exact I.ok.frames
  have fl0:=fl
  rw[hst]at fl
  refine wpAny_looks_onW hfr hfl fl λh4 held4 sm4=>?_
  refine wpAny_landsW held4 λh5 fl5 sm5=>?_
  have sm45:=sm4.trans sm5
  have fl5':Heap.FlyingW B X.stack a (.ref C1) a0 h5:=by rw[hst];exact fl5
  have I5:=(I1.caught fl0 agree un hok bare hos hna fl5' sm45).hdl a
  refine wpAny_handleBy_cons (codeAny_handlers_test (Xky (X:=X.hdl a) I5 hgw hmw ?_ hdw)) (by intro q;cases q)
  have LT:Looks (model X.prog X.w) h5 (typeOf (.ref a)) (.ref C1):=by
   obtain⟨ob,hob,hc⟩:=fl5.there
   rw[<- hc]
   exact (Looks.ld hob).andThen .now
  refine (PySem.W.exm_one (M:=model X.prog X.w) (h:=h5) I5.kIn LT hex).here ?_
  refine codeAny_handlers_suite_as ?_
  refine lands_againW fl5 λh6 fl6 sm6=>?_
  have fl6':Heap.FlyingW B X.stack a (.ref C1) a0 h6:=by rw[hst];exact fl6
  have I6:=(I1.caught fl0 agree un hok bare hos hna fl6' (sm45.trans sm6)).hdl a
  refine Xlx (X:=X.hdl a) I6 hN hi (.inl hloc) (v:=.ref a) rfl (λs7 I7=>?_) (.inr hloc)
  refine wpAny_mono (hth a pins s7 _ _ _ I7 (hth' a hna)) (λfw s8 q8=>?_) (λe s8 z=>z.elim)
  cases fw with
  |next=>
   obtain⟨Y',Hn,I8,q⟩:=q8
   have I8':Inv X pins Y' Hn s8:=I8.unhdl I.ok
   obtain⟨m,hn,hlo⟩:=id I8'.loc
   refine wpAny_nameGoes_keeps hnl hn (by rw[I.ok.kind];rfl) λh9 v9 hn9 sb9=>?_
   exact⟨Y'.set ni none,Hn,I8'.goes hN hi hlo hn9 sb9,q⟩
  |ret u=>obtain⟨v,Y',Hn,I8,_,z⟩:=q8;exact z.elim
  |brk=>obtain⟨Y',Hn,I8,z⟩:=q8;exact False.elim z
  |cont=>obtain⟨Y',Hn,I8,z⟩:=q8;exact False.elim z
end
abbrev Yhg:=List D->(OV->Prop)->(Str->Prop)->Prop
def spX (K:Frag)(n:Nat)(sp:Yhg):Sp:=λvs H Q E=>vs.length=n/\∃F ds Pr Xc,Xbi F H/\Xb4 K F ds vs/\sp ds Pr Xc/\(∀r v F' H',Pr r->Ext F H F' H'->Xno K H F' H' r v->Q v H')/\
 ∀c C F' H',Xc c->nsIn K mainGlobals c=some (some (.ref C))->Ext F H F' H'->E (.ref C) none H'
def Yb8 (K:Frag)(F0 H0:Hp)(t:TS)(T:DS):Prop:=∀F H Y δ De En,Xf1 K F0 H0 F H Y δ->Lk K F0 H0 De En->T De δ->t En Y H
section
variable {K:Frag}{F0 H0:Hp}{t u:TS}{T U:DS}
theorem Xeg.x (h:Xeg K t T):Yb8 K F0 H0 t T:=λF H Y δ De En=>h F0 H0 F H Y δ De En
theorem Xmq (h:Yb8 K F0 H0 t T)(g:Yb8 K F0 H0 u U):Yb8 K F0 H0 (Yk2 t u) (Yku T U):=λF H Y δ De E e l w=>
 h F H Y δ {De with nx:=U De} _ e ⟨λF1 H1 Y1 δ1 e1 w1=>g F1 H1 Y1 δ1 De E e1 l w1,l.bk,l.ct,l.rt⟩ w
theorem Yh7 {c:TT}{C:DT}(h:Xtp K c C)(ht:Yb8 K F0 H0 t T)(hu:Yb8 K F0 H0 u U):Yb8 K F0 H0 (Yk4 c t u) (sIf C T U):=λF H Y δ De En e l w=>h F0 H0 F H Y δ _ _ e w λb F' H' p x=>by
 cases b with
 |true=>exact Ydj (ht F' H' Y δ De En (e.on x) l p)
 |false=>exact Ydk rfl (hu F' H' Y δ De En (e.on x) l p)
def Yct (X:Prop)(Em:DE):DS:=λ_ δ=>Em δ λ_=>X
theorem Xt5 {c:Str}{C:Addr}{tm:TE}{Em:DE}{E:XK}{Xc:Str->Prop}(hC:nsIn K mainGlobals c=some (some (.ref C)))(hx:∀c C F' H',Xc c->nsIn K mainGlobals c=some (some (.ref C))->Ext F0 H0 F' H'->E (.ref C) none H')(h:Xgi K tm Em):
  Yb8 K F0 H0 (Ycj tm λH'=>E (.ref C) none H') (Yct (Xc c) Em):=λF H Y δ De En e l w=>
 h F0 H0 F H Y δ _ _ e w λd v F' H' p x r=>⟨by rw[length_singleton,sizeLine_eq];decide,hx c C F' H' p hC (Xf1.ext (e.on x))⟩
end
theorem Yiw {K:Frag}{mg:Str->Option Value}{base:Heap}{c:Str}{C:Addr}(X:K.In base)(G:base.Ns mainGlobals mg)(e:nsIn K mainGlobals c=some (some (.ref C)))
  (q:excIn K C [.type "ValueError",.type "Exception",.type "BaseException",.type "object"] "ValueError.__new__"=true):OwnCls c C [.type "ValueError",.type "Exception",.type "BaseException",.type "object"] "ValueError.__new__" mg base:=by
 refine⟨mg_of X G e,?_⟩
 unfold excIn at q
 split at q
 .rename_i dd cd sl ho
  split at q
  .rename_i C' bm k0 k1 k2 k3 n k5 hm hs
   simp only[and_eq_true,beq_iff_eq,Bool.not_eq_true']at q
   obtain⟨⟨⟨⟨⟨rfl,rfl⟩,hdel⟩,ht⟩,hok⟩,hni⟩:=q
   obtain⟨nm,bs,mro,ns,qn,hd,sn,sub,ab,col,del⟩:=cd
   dsimp only at hm hdel hok hni
   subst hm hdel
   have hsl:sl=#[k0,k1,k2,k3,some (.builtin "ValueError.__new__"),k5]:=by
    obtain⟨l⟩:=sl
    simp only at hs
    rw[hs]
   subst hsl
   exact⟨bm,ns,nm,qn,bs,hd,sn,sub,ab,col,dd,k0,k1,k2,k3,k5,_,X _ _ ho,.of_isNs (PySem.W.isNs_of_in X hok),PySem.W.nsMap_none_of_in X hok hni,PySem.W.tail_of_in X ht⟩
  .cases q
 .cases q
section
variable {P:Program}{w:World}{K:Frag}{mg:Str->Option Value}{base:Heap}{N:List Str}{qual:Str}{scope:Scope}{f:Addr}{cd:Value}{A:Around}{outer:List Env}{s:Shared}{H:Hp}{E:XK}
theorem CalXV.of {x:Str}{st:Stmt}{fd:FuncData}{ps:List Str}{k n:Nat}{sp:Yhg}(Df:DefAt K mg x st f fd)(S:FnScope N ps (Xac st))
  (hb:∀(kV doc pm:Value) (an:Option Addr) (cdv ct:Value) (us:List Value),us.length=ps.length->bindArgs (fnOf x x (Xar st) (Xan st) (Xac st) .none kV doc pm an cdv ct) ⟨us,[]⟩=pure (ps.zip us)) (hn:n=ps.length)
  (hbody:∀(cdv:Value) (A:Around) (outer:List Env) (s:Shared) (H:Hp) (E:XK),Room k (A.deeper (envOfC x (Xac st) s.heap.objs.size f cdv))->∀(F:Hp) (Xc:Str->Prop),(∀c C F' H',Xc c->nsIn K mainGlobals c=some (some (.ref C))->Ext F H F' H'->E (.ref C) none H')->
   ∃t T,PSs (Xn6 (CXE P w) P w K mg base N x (Xac st) f cdv A outer s H E) (Xan st) t/\Yb8 K F H t T/\∀ds Pr,sp ds Pr Xc->T {nx:=λ_=>Pr (.fz .non),rt:=Pr} (Xfn N ds)):CalX P w K mg base x (k+1) ps (spX K n sp):=by
 obtain⟨oc,od,kV,doc,pm,an,cdv,ct,osl,rfl,lk,hcd⟩:=Df.fn.ex
 refine⟨f,_,?_,Df.here,Df.fn.kp,Df.fn.binds hb⟩
 refine Ygq lk hcd S (λvs H Q E h=>by rw[<- hn];exact h.1) λA outer s H vs Q E hr h=>?_
 obtain⟨_,F,ds,Pr,Xc,hs,hr',hsp,hq,hE⟩:=h
 obtain⟨t,T,h1,h2,h3⟩:=hbody cdv A outer s H E hr F Xc hE
 refine⟨t,h1,h2 F H (Xe4 N vs) (Xfn N ds) {nx:=λ_=>Pr (.fz .non),rt:=Pr} _ ⟨_,Xhy hs hr'⟩ ⟨λF' H' Y δ e p=>?_,λ_ _ _ _ _ z=>z.elim,λ_ _ _ _ _ z=>z.elim,λF' H' r v x n p=>hq r v F' H' p x n⟩ (h3 ds Pr hsp)⟩
 exact hq _ _ F' H' p e.ext (.fz rfl)
theorem CalX.cal {x:Str}{ps:List Str}{k n:Nat}{sp:Yhg}(C:CalX P w K mg base x k ps (spX K n sp)):Cal P w K mg base x k ps (spV K n λds Pr=>sp ds Pr λ_=>False):=by
 obtain⟨f,fd,F,h1,h2,h3⟩:=C.ex
 refine⟨f,fd,⟨λvs H Q E h=>?_,λA outer s H args us vs Q E hr he hb hv hsp=>?_⟩,h1,h2,h3⟩
 .obtain ⟨hl,F',ds,Pr,hs,hr,hsp,hq⟩:=h
  exact F.len vs H Q (λ_ _ _=>False) ⟨hl,F',ds,Pr,_,hs,hr,hsp,hq,λ_ _ _ _ z=>z.elim⟩
 .obtain ⟨hl,F',ds,Pr,hs,hr',hsp,hq⟩:=hsp
  refine codeAny_mono (F.run A outer s H args us vs Q (λ_ _ _=>False) hr he hb hv ⟨hl,F',ds,Pr,_,hs,hr',hsp,hq,λ_ _ _ _ z=>z.elim⟩) λres s' hq=>?_
  cases res with
  |ok fl=>cases fl<;>exact hq
  |error e=>
   obtain⟨a,C1,a0,B,H',rfl,z,_⟩:=hq
   exact z.elim
end
def Yh0 (ni n:Nat)(sp:Yhg)(cs:List Str)(As:DA)(Th:DS):DS:=λDe δ=>As δ λds=>ds.length=n/\sp ds (λ_=>De.nx δ) λc=>c∈cs/\Th {nx:=λδ'=>De.nx (δ'.set ni none),rt:=λ_=>False} (δ.set ni (some (.own (.fz (.exc c)))))
section
variable {K:Frag}{F0 H0 F H:Hp}{Y:St}{δ:Dst}{A:Nat->List Addr}
theorem ER.clr (e:ER K F0 H0 F H Y δ A)(i:Nat):ER K F0 H0 F H (Y.set i none) (δ.set i none) (λj=>if j=i then [] else A j) where
 len:=by simp[e.len]
 ext:=e.ext
 own := λj t hj=>by
  by_cases z:j=i
  .subst z
   rw[getElem?_set]at hj
   split at hj
   .split at hj<;>cases hj
   .cases (by assumption:¬ j=j) rfl
  .rw [getElem?_set_ne (Ne.symm z)]at hj
   obtain⟨v,h1,h2⟩:=e.own j t hj
   exact⟨v,by rw[getElem?_set_ne (Ne.symm z)];exact h1,by rw[if_neg z];exact h2⟩
 bw:=λj d hj=>by
  by_cases z:j=i
  .subst z
   rw[getElem?_set]at hj
   split at hj
   .split at hj<;>cases hj
   .cases (by assumption:¬ j=j) rfl
  .rw [getElem?_set_ne (Ne.symm z)]at hj
   obtain⟨v,h1,h2⟩:=e.bw j d hj
   exact⟨v,by rw[getElem?_set_ne (Ne.symm z)];exact h1,h2⟩
 nod:=λj=>by
  try dsimp only
  split
  .exact nodup_nil
  .exact e.nod j
 dis := λj k a hjk h1 h2=>by
  try dsimp only at h1 h2
  split at h1
  .cases h1
  .split at h2
   .cases h2
   .exact e.dis j k a hjk h1 h2
 new:=λj a ha=>by
  try dsimp only at ha
  split at ha
  .cases ha
  .exact e.new j a ha
theorem Yel {W:Addr}{ni n:Nat}{sp:Yhg}{cs:List Str}{a:TA}{As:DA}{th:TS}{Th:DS}(hW:∀c∈cs,∀C,nsIn K mainGlobals c=some (some (.ref C))->exmOne K (.ref C) (.ref W)=some true)(ha:Xk7 K a As)(hth:Xeg K th Th):
  Xeg K (Yhl K W ni (spX K n sp) a th) (Yh0 ni n sp cs As Th):=λF0 H0 F H Y δ De En e l w=>ha F0 H0 F H Y δ _ _ e w λds vs F1 H1 w1 x1 r1=>by
 have e1:=e.on x1
 refine⟨by rw[<- r1.length];exact w1.1,F1,ds,_,_,x1.fh,r1,w1.2,λr v F' H' p x' r'=>l.nx F' H' Y δ (e1.on x') p,λc C F' H' p hC x'=>?_⟩
 obtain⟨hc,p⟩:=p
 refine⟨C,rfl,hW c hc C hC,λa ha=>?_⟩
 have x2:Ext F' H' (upd F' a (.ext (Xtl a (.ref C)))) (upd H' a (.ext (Xtl a (.ref C)))):=Ext.new x'.fh ha (Xbi.new ha) Xay
 have e2:=(e1.on x').put x2 ni (r:=.fz (.exc c)) (v:=.ref a) (.fz ⟨a,C,rfl,hC,Xay⟩)
 refine hth F0 H0 _ _ _ _ {nx:=λδ'=>De.nx (δ'.set ni none),rt:=λ_=>False} _ e2 ⟨λF3 H3 Y3 δ3 e3 q3=>?_,λ_ _ _ _ _ z=>z.elim,λ_ _ _ _ _ z=>z.elim,λ_ _ _ _ _ _ z=>z.elim⟩ p
 obtain⟨A3,e3⟩:=e3
 exact l.nx F3 H3 _ _ ⟨_,e3.clr ni⟩ q3
end
structure ExcV (K:Frag) (c:Str) (xs:List (Str×Bool)) (ts:List (String×Bool)):Prop where
 ex:∃C,nsIn K mainGlobals c=some (some (.ref C))/\PySem.W.ExcK K C/\(∀y∈xs,∃D,nsIn K mainGlobals y.1=some (some (.ref D))/\kitOne K (.ref C) (.ref D)=some y.2)/\∀y∈ts,kitOne K (.ref C) (.type y.1)=some y.2
def Ymp (K:Frag):List V->Hp->VK->Prop:=λvs H Q=>∃a C v b,vs=[.ref a,v]/\H a=some (.ext (Xtl a (.ref C)))/\PySem.W.ExcK K C/\((∃D,v = .ref D/\kitOne K (.ref C) (.ref D)=some b)∨∃t,v = .ty t/\kitOne K (.ref C) (.type t)=some b)/\Q (.bl b) H
theorem Xp3 {X:Cx}:Xhv X (.builtin "isinstance") (Ymp X.K):=by
 intro pins s Y H vs us Q I r h
 obtain⟨a,C,v,b,rfl,ha,Z,hv,q⟩:=h
 obtain⟨u,u',rfl,r1,r2⟩:=Yd4 r
 cases r1
 have fin:∀tk,EP X pins Y Q (.bool b) {s with toks:=tk}:=λtk=>⟨.bl b,H,I.tok tk,rfl,q⟩
 have hφ:=(I.hok a _ ha).1
 rcases hv with⟨D,rfl,e⟩ | ⟨t,rfl,e⟩
 .cases r2
  exact kia_one (PySem.W.kitx_exc Z) I.kIn hφ e (λz=>nomatch z) fin
 .cases r2
  exact kia_one (PySem.W.kitx_exc Z) I.kIn hφ e (λz=>nomatch z) fin
def Ylq (c:Str)(xs:List (Str×Bool))(ts:List (String×Bool)):List D->(D->Prop)->Prop:=λds P=>match ds with
 | [.exc c',.fn x]=>c'=c/\∃b,(x,b)∈xs/\P (.bl b)
 | [.exc c',.ty t]=>c'=c/\∃b,(t,b)∈ts/\P (.bl b)
 |_=>False
theorem Xz8 {K:Frag}{c:Str}{xs:List (Str×Bool)}{ts:List (String×Bool)}(EV:ExcV K c xs ts):CbS K (Ymp K) (Ylq c xs ts):=λF H ds vs P Q s rs w q=>by
 obtain⟨C,hC,Z,h1,h2⟩:=EV.ex
 unfold Ylq at w
 split at w
 .obtain ⟨rfl,b,hb,w⟩:=w
  obtain⟨v,u,rfl,r1,r2⟩:=Xxs rs
  obtain⟨a,C',rfl,hC',ha⟩:=r1
  rw[hC]at hC'
  cases hC'
  obtain⟨f,rfl,hf⟩:=r2
  obtain⟨D,hD,hk⟩:=h1 _ hb
  rw[hf]at hD
  cases hD
  exact⟨a,C,_,b,rfl,ha,Z,.inl ⟨_,rfl,hk⟩,q _ _ F H w (Ext.refl s) rfl⟩
 .obtain ⟨rfl,b,hb,w⟩:=w
  obtain⟨v,u,rfl,r1,r2⟩:=Xxs rs
  obtain⟨a,C',rfl,hC',ha⟩:=r1
  rw[hC]at hC'
  cases hC'
  cases r2
  exact⟨a,C,_,b,rfl,ha,Z,.inr ⟨_,rfl,h2 _ hb⟩,q _ _ F H w (Ext.refl s) rfl⟩
 .exact w.elim
open PySem PySem.Spec PyProof.Rows
theorem Xnm:bootBuiltins "ValueError"=some (.type "ValueError"):=by decide +kernel
section
variable {X:Cx}{K:Frag}
def Yii:List V->Hp->VK->Prop:=λvs H Q=>∃x n,vs=[.str x]/\PySem.intText? x=some n/\x.length<=640/\Q (.int n) H
theorem Xz3:Xhv X (.type "int") Yii:=by
 intro pins s Y H vs us Q I r h
 obtain⟨x,n,rfl,hn,hl,q⟩:=h
 obtain⟨u,rfl,ru⟩:=Xiy r
 obtain⟨t,rfl⟩:=ru
 exact PySem.W.KIN.call_text hn hl ⟨.int n,H,I.tok _,⟨_,rfl⟩,q⟩
def Ygg:List D->(D->Prop)->Prop:=λds P=>match ds with
 | [.str x]=>∃n,PySem.intText? x=some n/\x.length<=640/\P (.int n)
 |_=>False
theorem Ygx:CbS K Yii Ygg:=λF H ds vs P Q s rs w q=>by
 unfold Ygg at w
 split at w
 .obtain ⟨n,hn,hl,w⟩:=w
  obtain⟨v,rfl,r1⟩:=Xjm rs
  cases r1
  exact⟨_,n,rfl,hn,hl,q _ _ F H w (Ext.refl s) rfl⟩
 .exact w.elim
def rStarts:V->List V->Hp->VK->Prop:=λx vs H Q=>∃a b,x = .str a/\vs=[.str b]/\Q (.bl (Txt.startswith a b)) H
theorem Xrw:MtR X "str.startswith" rStarts:=by
 intro pins s Y H x xs v us Q I rx r h
 obtain⟨a,b,rfl,rfl,q⟩:=h
 obtain⟨t,rfl⟩:=rx
 obtain⟨u,rfl,ru⟩:=Xiy r
 obtain⟨t',rfl⟩:=ru
 exact PySem.SC.startswith ⟨.bl _,H,I,rfl,q⟩
def Xzv (E Ec:DE):DE:=λδ P=>E δ λd=>match d with
 | .str x=>Ec δ λl=>match l with
  | .str y=>P (.bl (Txt.startswith x y))
  |_=>False
 |_=>False
theorem Xq2 {te ta:TE}{E El:DE}(h:Xgi K te E)(ha:Xgi K ta El):Xeh K (tBM K "str" rStarts te (Xiz ta Xqc)) (Xzv E El):=λF0 H0 F H Y δ P Q e w q=>h F0 H0 F H Y δ _ _ e w λd v F1 H1 w1 x1 r1=>by
 try dsimp only at w1
 split at w1
 .rename_i x
  cases (show v=V.str x from r1)
  refine⟨rfl,ha F0 H0 F1 H1 Y δ _ _ (e.on x1) w1 λl u F2 H2 w2 x2 r2=>?_⟩
  try dsimp only at w2
  split at w2
  .rename_i y
   cases (show u=V.str y from r2)
   exact⟨x,y,rfl,rfl,q _ _ F2 H2 w2 (x1.trans x2) rfl⟩
  .exact w2.elim
 .exact w1.elim
end
open PySem PySem.Spec PyProof.Rows PyProof.V PySem.W
section
variable {X:Cx}
end
section
variable {K:Frag}{X:Cx}
end
section
variable {M:Model}{A:Around}{E:Value->Shared->Prop}{s:Shared}
end
section
variable {P:Program}{w:World}{K:Frag}{mg:Str->Option Value}{base:Heap}{N:List Str}{qual:Str}{scope:Scope}{f:Addr}{cd:Value}{A:Around}{outer:List Env}{s:Shared}{H:Hp}{E:XK}
end
section
variable {P:Program}{w:World}{K:Frag}{mg:Str->Option Value}{base:Heap}{N0:List Str}{qual:Str}{scope0:Scope}{f:Addr}{cd:Value}{A:Around}{outer:List Env}{s0:Shared}{H0:Hp}{E:XK}
variable {X:Cx}{tg iter e:Expr}{es:List Expr}{scope:Scope}{N:List Str}{ix:List (Option Nat)}{wi:TI}{g:TG}{ta:TA}{pos p cpos:Pos}{x:Str}{k:Nat}{ps:List Str}{sp:Sp}
end
section
variable {K:Frag}{F0 H0:Hp}
end
open PySem PySem.Spec PyProof.Rows
theorem Xo0 (l:Addr)(items:Array Value)(n:Nat)(dd:Option Addr)(sl:Array (Option Value))(x:Value)(e:Value->Bool)(j:Nat)(hj:j<items.size)(hit:e items[j]=true)(hno:∀m (hm:m<items.size),m<j->e items[m]=false)(he:∀y,y∈items->MeetsSeq.EqGives y x (e y)):
  Meets (Builtin.«tuple.index» ⟨[.ref l,x],[]⟩)
   (λA R s=>s.heap.get? l=some {cls:=.type "tuple",dict:=dd,data:=.seq items n,slots:=sl}/\R (.ok (.ret (.int j s.toks))) {s with toks:=s.toks+1}):=
 .of_wp λprog w A R s h=>by
  obtain⟨hp,g,d,tk,os⟩:=s;obtain⟨hl,h⟩:=h
  wp_walk using wpAny_loadPart' hl
  change wpAny (model prog w) A.in1 (forIn [:min items.size items.size] ((none,()):Option Fin×Unit) (λi (_:Option Fin×Unit)=>match items[i]? with
   |some y=>do
    let b <- eqBool y x
    if b=true then do
      let r <- retInt (i:Int)
      pure (ForInStep.done (some r,()))
     else pure (ForInStep.yield (none,()))
   |_=>pure (ForInStep.yield (none,())):Nat->Option Fin×Unit->Sem (ForInStep (Option Fin×Unit)))) _ _ _
  rw[Std.Legacy.Range.forIn_eq_forIn_range']
  simp only[Std.Legacy.Range.size,Nat.sub_zero,Nat.add_sub_cancel,Nat.div_one,min_self]
  refine wpAny_forIn_list _ (λrst b s'=>s'=⟨hp,g,d,tk,os⟩/\∃i,rst=List.range' i (items.size-i)/\i<=j) _ ?_ ?_ _ _ ⟨rfl,0,by simp,zero_le _⟩
  .rintro y rst b s' ⟨rfl,i,hr,hi⟩
   have hlt:i<items.size:=by omega
   obtain⟨rfl,hrest⟩:y=i/\rst=List.range' (i+1) (items.size-(i+1)):=by
    have e:items.size-i=(items.size-(i+1))+1:=by omega
    rw[e,List.range'_succ]at hr
    injection hr with h1 h2
    exact⟨h1,h2⟩
   rw[Array.getElem?_eq_getElem hlt]
   refine wpAny_bind (he _ (Array.getElem_mem hlt) prog w _ _ _ _ ?_)
   by_cases hij:y=j
   .subst hij
    rw[hit]
    wp_walk
    exact⟨_,rfl,h⟩
   .rw [hno y hlt (by omega)]
    exact wpAny_pure ⟨rfl,y+1,hrest,by omega⟩
  .rintro b s' ⟨rfl,i,hr,hi⟩
   have:items.size-i=0:=by
    have:=congrArg List.length hr
    simpa using this.symm
   omega
theorem Yd9 {ys:List Str}:∀{its:List Value},Xb5 (ys.map V.str) its->StrsAre its ys:=by
 induction ys with
 |nil=>intro its h;cases h;exact .nil
 |cons y ys ih=>
  intro its h
  cases h with
  |cons h1 h2=>
   obtain⟨t,rfl⟩:=h1
   exact .cons _ _ (ih h2)
theorem Xps (k:Str):∀{vs:List Value} {ns:List Str},StrsAre vs ns->∀(j:Nat) (h1:j<vs.length) (h2:j<ns.length),isStrOf k vs[j]=(ns[j]==k)
 |_,_,.cons n t _,0,_,_=>rfl
 |_,_,.cons n t r,j+1,h1,h2=>Xps k r j (Nat.lt_of_succ_lt_succ h1) (Nat.lt_of_succ_lt_succ h2)
theorem Xrv {k:Str}:∀{ns:List Str} {j:Nat},j<ns.idxOf k->∀(h2:j<ns.length),(ns[j]==k)=false
 |n::r,0,h,_=>by
  by_cases e:n=k
  .subst e;simp at h
  .simpa using e
 |n :: r,j+1,h,h2=>by
  by_cases e:n=k
  .subst e;simp at h
  .have hb:(n==k)=false:=by simpa using e
   have h':j<r.idxOf k:=by
    rw[List.idxOf_cons,hb]at h
    exact Nat.lt_of_succ_lt_succ h
   exact Xrv h' (Nat.lt_of_succ_lt_succ h2)
section
variable {X:Cx}{K:Frag}
def Yib (K:Frag):V->List V->Hp->VK->Prop:=λx vs H Q=>∃p k,∃ys:List Str,x = .ref p/\vs=[.str k]/\SqT K H p (ys.map V.str)/\k∈ys/\Q (.int (ys.idxOf k:Nat)) H
theorem Yf1:MtR X "tuple.index" (Yib X.K):=by
 intro pins s Y H x xs v us Q I rx r h
 obtain⟨p,k,ys,rfl,rfl,hp,hk,q⟩:=h
 cases rx
 obtain⟨u,rfl,ru⟩:=Xiy r
 obtain⟨t,rfl⟩:=ru
 obtain⟨its,hv,⟨o,ho,hc,n,hd⟩,_⟩:=I.tuple hp
 obtain⟨oc,od,odt,osl⟩:=o
 dsimp only at hc hd
 subst hc hd
 have hs:=Yd9 hv
 have hlen:its.length=ys.length:=by rw[<- hv.length,length_map]
 have hj:ys.idxOf k<ys.length:=List.idxOf_lt_length_iff.mpr hk
 refine call_meets PySem.F.slot_tuple_index ⟨_,ho,rfl⟩ PySem.F.entry_tuple_index (PySem.F.args_tuple_index_2 _ _)
  (Xo0 p its.toArray n od osl (.str k t) (isStrOf k) (ys.idxOf k) (by simpa[hlen] using hj) ?_ ?_ (λy hy=>eq_isStrOf k t hs y (by simpa using hy))) ⟨ho,⟨.int _,H,I.tok _,⟨_,rfl⟩,q⟩⟩
 .show isStrOf k its[ys.idxOf k]=true
  rw[Xps k hs _ (by omega) hj]
  simpa using List.getElem_idxOf hj
 .intro m hm hlt
  show isStrOf k its[m]=false
  rw[Xps k hs m (by simpa using hm) (by omega)]
  exact Xrv hlt _
def rFind:V->List V->Hp->VK->Prop:=λx vs H Q=>∃a b,x = .str a/\vs=[.str b]/\Q (.int (Txt.find a b)) H
theorem Yf2:MtR X "str.find" rFind:=by
 intro pins s Y H x xs v us Q I rx r h
 obtain⟨a,b,rfl,rfl,q⟩:=h
 obtain⟨t,rfl⟩:=rx
 obtain⟨u,rfl,ru⟩:=Xiy r
 obtain⟨t',rfl⟩:=ru
 exact PySem.SC.find ⟨.int _,H,I.tok _,⟨_,rfl⟩,q⟩
def Ykd (E Ec:DE):DE:=λδ P=>E δ λd=>match d with
 | .str x=>Ec δ λl=>match l with
  | .str y=>P (.int (Txt.find x y))
  |_=>False
 |_=>False
theorem Yez {te ta:TE}{E El:DE}(h:Xgi K te E)(ha:Xgi K ta El):Xeh K (tBM K "str" rFind te (Xiz ta Xqc)) (Ykd E El):=λF0 H0 F H Y δ P Q e w q=>h F0 H0 F H Y δ _ _ e w λd v F1 H1 w1 x1 r1=>by
 try dsimp only at w1
 split at w1
 .rename_i x
  cases (show v=V.str x from r1)
  refine⟨rfl,ha F0 H0 F1 H1 Y δ _ _ (e.on x1) w1 λl u F2 H2 w2 x2 r2=>?_⟩
  try dsimp only at w2
  split at w2
  .rename_i y
   cases (show u=V.str y from r2)
   exact⟨x,y,rfl,rfl,q _ _ F2 H2 w2 (x1.trans x2) rfl⟩
  .exact w2.elim
 .exact w1.elim
def Yhd (K:Frag)(mg:Str->Option Value)(x:Str)(ys:List Str):Prop:=∃a o,mg x=some (.ref a)/\(∀F,Rep K F (.tup (ys.map D.str)) (.ref a))/\K.lookup a=some o/\o.cls = .type "tuple"/\o.dict=none
def Yma (K:Frag)(ys:List Str):TE:=λ_ H Q=>∀a o,SqT K H a (ys.map V.str)->K.lookup a=some o->o.cls = .type "tuple"->o.dict=none->Q (.ref a) H
theorem Xtx {F:Hp}:∀{ys:List Str} {vs:List V},Xb4 K F (ys.map D.str) vs->vs=ys.map V.str
 | [],_,h=>h
 |y::ys,_,h=>by
  obtain⟨v,r,rfl,g1,g2⟩:=h
  rw[Xtx g2,show v=V.str y from g1]
  rfl
theorem Yhd.c {mg:Str->Option Value}{x:Str}{ys:List Str}(h:Yhd K mg x ys):Yac K mg x (.tup (ys.map D.str)):=let⟨a,_,e,r,_⟩:=h;⟨a,e,r⟩
theorem Ya8 {x:Str}{ys:List Str}{pos:Pos}(hg:Gl X x)(hm:Yhd X.K X.mg x ys)(hd:(x==("__debug__":Str))=false:=by decide):PE X (.Name x pos) (Yma X.K ys):=by
 intro pins s Y H Q I h
 obtain⟨a,o,e,r,h1,h2,h3⟩:=hm
 obtain⟨a',vs,e1,hsq,hrs⟩:=r H
 cases e1
 rw[Xtx hrs]at hsq
 exact Xjo (v:=.ref a) hg e rfl hd pins s Y H Q I (h _ _ hsq h1 h2 h3)
def Yj1 (ys:List Str)(Ec:DE):DE:=λδ P=>Ec δ λl=>match l with
 | .str k=>k∈ys/\P (.int (ys.idxOf k:Nat))
 |_=>False
theorem Yev {ys:List Str}{ta:TE}{El:DE}(ha:Xgi K ta El):Xeh K (tBM K "tuple" (Yib K) (Yma K ys) (Xiz ta Xqc)) (Yj1 ys El):=λF0 H0 F H Y δ P Q e w q=>λa o hsq h1 h2 h3=>by
 refine⟨.inr (.inl ⟨rfl,o,h1,h2,h3⟩),ha F0 H0 F H Y δ _ _ e w λl u F2 H2 w2 x2 r2=>?_⟩
 try dsimp only at w2
 split at w2
 .rename_i k
  cases (show u=V.str k from r2)
  exact⟨a,k,ys,rfl,rfl,x2.hh.seqT hsq,w2.1,q _ _ F2 H2 w2.2 x2 rfl⟩
 .exact w2.elim
def Xsx:DR2:=λx y P=>match x,y with
 | .str i,.str j=>P (.bl (!(!(Builtin.Str.occurrences j i 0 j.length 1).isEmpty)))
 |_,_=>False
theorem Xym:OpS K (λx y H Q=>∃i j,x = .str i/\y = .str j/\Q (.bl (!(!(Builtin.Str.occurrences j i 0 j.length 1).isEmpty))) H) Xsx:=λF H x y v u P Q s rx ry w q=>by
 unfold Xsx at w
 split at w
 .exact ⟨_,_,rx,ry,q _ _ F H w (Ext.refl s) rfl⟩
 .exact w.elim
end
open PySem PySem.Spec PyProof.Rows PyProof.V PySem.W
section
variable {K:Frag}{h:Heap}{mg:Str->Option Value}{x m q c:Str}{st:Stmt}{f T C:Addr}{od an odT:Option Addr}{sl slT:Array (Option Value)}{oc kV dc pm cd ct ocT:Value}{nT:Nat}{ds:Array Value}
theorem mv {n:Str}{v:Value}(X:K.In h)(G:h.Ns mainGlobals mg)(e:nsIn K mainGlobals n=some (some v):=by k_is):mg n=some v:=mg_of X G e
end
section
variable {K:Frag}
end
section
variable {X:Cx}
end
section
variable {K:Frag}
end
section
variable {K:Frag}
end
section
variable {X:Cx}
end
section
variable {P:Program}{w:World}{K:Frag}{mg:Str->Option Value}{base:Heap}{c m q:Str}{ns:List Str}{st:Stmt}{f:Addr}{fd:FuncData}{N ps:List Str}{k n:Nat}
end
section
variable {K:Frag}
end
end L2
namespace PySem
open Builtin
end PySem
namespace L2
open PySem PySem.Spec PyProof.Rows PyProof.V PySem.W
section
variable {X:Cx}
end
section
variable {K:Frag}
end
section
variable {P:Program}{w:World}{K:Frag}{mg:Str->Option Value}{base:Heap}{N:List Str}
end
section
variable {X:Cx}
end
section
variable {K:Frag}{te ti:TE}{Eo:DO}{Ei:DE}
end
def rSplit:V->List V->Hp->VK->Prop:=λx vs H Q=>∃a b,x = .str a/\vs=[.str b]/\1<=b.length/\a.length<sizeLine/\∀l,H l=none->Q (.ref l) (upd H l (.lst ((Txt.split a b).map V.str)))
theorem Xp8:∀(l:List Str) (k:Nat),Xb5 (l.map V.str) (strsFrom k l)
 | [],_=>.nil
 |a::l,k=>.cons ⟨_,rfl⟩ (Xp8 l (k+1))
section
variable {X:Cx}
theorem Xpp:MtM X "str.split" rSplit:=by
 intro pins s Y H x vs v us Q I rx rv h
 obtain⟨a,b,rfl,rfl,hb,hz,q⟩:=h
 obtain⟨t,rfl⟩:=rx
 obtain⟨u,rfl,ru⟩:=rv.one
 obtain⟨t',rfl⟩:=ru
 have hy:(b.length==0)=false:=beq_eq_false_iff_ne.mpr (by omega)
 have hw:=split_weight a b hb
 have hl:(Txt.split a b).length<=sizeLine:=by omega
 cases h1:(decide (a.length<b.length) ||decide (Builtin.Str.strKind a<Builtin.Str.strKind b))
 .cases hf:(Builtin.Str.occurrences a b 0 a.length (a.length+1)).isEmpty
  .have e:Txt.split a b=Builtin.Str.partsBetween a (Builtin.Str.occurrences a b 0 a.length (a.length+1)) b.length:=(if_neg (by rw[h1];decide)).trans (if_neg (by rw[hf];decide))
   rw[e]at hl q
   exact call_meets F.slot_str_split (typeIs_str _ _ _) F.entry_str_split (F.args_str_split_2 _ _) (meets_str_split_sep a b t t' h1 hy hf (by omega) hl) ⟨.ref _,_,I.lnew (Xp8 _ s.toks) (by rw[length_map];exact hl),rfl,q _ I.fresh⟩
  .have e:Txt.split a b=[a]:=(if_neg (by rw[h1];decide)).trans (if_pos hf)
   rw[e]at q
   exact call_meets F.slot_str_split (typeIs_str _ _ _) F.entry_str_split (F.args_str_split_2 _ _) (meets_str_split_not_found a b t t' h1 hy hf) ⟨.ref _,_,I.lnew (ys:=[V.str a]) (t':=s.toks) (.cons ⟨_,rfl⟩ .nil) (by show 1<=sizeLine;rw[sizeLine_eq];decide),rfl,q _ I.fresh⟩
 .have e:Txt.split a b=[a]:=if_pos h1
  rw[e]at q
  exact call_meets F.slot_str_split (typeIs_str _ _ _) F.entry_str_split (F.args_str_split_2 _ _) (meets_str_split_cannot_occur a b t t' h1) ⟨.ref _,_,I.lnew (ys:=[V.str a]) (t':=s.toks) (.cons ⟨_,rfl⟩ .nil) (by show 1<=sizeLine;rw[sizeLine_eq];decide),rfl,q _ I.fresh⟩
end
def Ydr (E Ec:DE):DO:=λδ P=>E δ λd=>match d with
 | .str x=>Ec δ λl=>match l with
  | .str y=>1<=y.length/\x.length<=1000000/\P (.nl ((Txt.split x y).map λs=>.fz (.str s)))
  |_=>False
 |_=>False
section
variable {K:Frag}
theorem Xq5 {F:Hp}:∀l:List Str,Xb4 K F (l.map D.str) (l.map V.str)
 | []=>rfl
 |a::l=>⟨_,_,rfl,rfl,Xq5 l⟩
theorem Xo9 {te ta:TE}{E El:DE}(h:Xgi K te E)(ha:Xgi K ta El):Xjx K (tBM K "str" rSplit te (Xiz ta Xqc)) (Ydr E El):=λF0 H0 F H Y δ P Q e w q=>h F0 H0 F H Y δ _ _ e w λd v F1 H1 w1 x1 r1=>by
 try dsimp only at w1
 split at w1
 .rename_i x
  cases (show v=V.str x from r1)
  refine⟨rfl,ha F0 H0 F1 H1 Y δ _ _ (e.on x1) w1 λl u F2 H2 w2 x2 r2=>?_⟩
  try dsimp only at w2
  split at w2
  .rename_i y
   cases (show u=V.str y from r2)
   obtain⟨hy,hx,w2⟩:=w2
   have hs:=sizeLine_eq
   have x12:=x1.trans x2
   refine⟨x,y,rfl,rfl,hy,by omega,λl l0=>?_⟩
   have n:=Xno.list (K:=K) (H:=H) (F':=F2) (H':=upd H2 l (.lst ((Txt.split x y).map V.str))) (x12.hh.free l0) (x2.fh.free l0) Xay (Xq5 (Txt.split x y))
   rw[map_map]at n
   exact q _ _ F2 _ w2 (x12.trans (Ext.grow x2.fh (Xbi.new l0))) n
  .exact w2.elim
 .exact w1.elim
def Yle:DR2:=λx y P=>match x,y with
 | .str i,.str j=>P (.bl (!(Builtin.Str.occurrences j i 0 j.length 1).isEmpty))
 |_,_=>False
theorem Yi4:OpS K (λx y H Q=>∃i j,x = .str i/\y = .str j/\Q (.bl (!(Builtin.Str.occurrences j i 0 j.length 1).isEmpty)) H) Yle:=λF H x y v u P Q s rx ry w q=>by
 unfold Yle at w
 split at w
 .exact ⟨_,_,rx,ry,q _ _ F H w (Ext.refl s) rfl⟩
 .exact w.elim
end
end L2
namespace Lw
open PySem L2 PyProof.Rows
def top (i:Nat):Stmt:=PySem.Challenge.pw_liftwave_k47_cut_texts.main.body.getD i (.Pass ⟨0,0,0,0⟩)
abbrev vD (d:D):Option Sl:=some (.own (.fz d))
abbrev vI (i:Int):Option Sl:=some (.own (.fz (.int i)))
abbrev vL (ts:List OV):Option Sl:=some (.own (.nl ts))
set_option hygiene false
local macro_rules | `(tactic|walk_at "b")=>`(tactic|first |exact (λ_ _ _ _ _ _ us hl=>match us,hl with | [_],_=>rfl) |exact (λ_ _ _ _ _ _ us hl=>match us,hl with | [_,_],_=>rfl) |exact (λ_ _ _ _ _ _ us hl=>match us,hl with | [_,_,_],_=>rfl) |exact (λ_ _ _ _ _ _ us hl=>match us,hl with | [_,_,_,_],_=>rfl) |exact (λ_ _ _ _ _ _ us hl=>match us,hl with | [_,_,_,_,_],_=>rfl))
local macro_rules | `(tactic|walk_at "S")=>`(tactic|exact⟨rfl,rfl,rfl,by decide +kernel,rfl,by decide +kernel,by decide +kernel⟩)
local macro_rules | `(tactic|fin2)=>`(tactic|simp only[vD,vI,vL,Xfn,Yh8,Yku,Ycy,Ymg,Yeq,sIf,Ymf,Ymj,Ymk,Yla,Ymh,Ye6,Ye7,Yk9,Yk7,Ycv,Ykf,Yj5,Ymi,gN,Xy3,Xr5,gT,dFz,Ymy,dLf,dV,dB,dC,dOp,dUn,rU1,rI2,Yij,Ylf,Ylc,Yld,Yfc,D.isNon,dTb,Ym3,Yna,dOr,dIf,Yki,Yj7,Ydv,Ylw,Ygu,Yj9,Ydt,Ymz,Ym4,ixL,ixT,ixS,dCB,Ym9,Yln,Ylm,Yl1,Yf6,Ykz,Yj8,dPt,Ym2,Ykg,Ydw,Ym7,Ym5,Yj4,Yj3,Ygz,Yke,Ylr,Ylp,Ylx,Ymx,D.same,Yl0,Yf5,Ykh,Yj0,Xzw,Ykc,Ym0,Yj6,Ydp,Yh6,Yj2,Yct,Yh0,Ylq,Ydr,Yle,Ykd,Yj1,Xsx,Ygg,Xzv,Ydq,Xzx,Xtk,Xsv,Xjh,Yk6,gB,Ydu,Ym8,Ye1,Ye3,Ye4,Ye5,Yes,Yds,Yka,Xj0,Xuu,Ykb,Yf0,Yg8,Yk5,Ym1,Ym6,OV.val,OV.vals,OV.vals_eq,D.lf,D.lfs,OV.lf,OV.lfs,map_cons,map_nil,cons_append,List.nil_append,length_cons,length_nil,List.replicate,Nat.reduceAdd,Nat.reduceSub,Nat.reduceLeDiff,List.getElem?_cons_zero,getElem?_cons_succ,set_cons_zero,set_cons_succ,Bool.not_true,Bool.not_false,Bool.true_and,Bool.and_true,Bool.false_and,Bool.and_false,true_and,and_true,if_true,if_false,false_eq_true,length_map,reduceIte,decide_eq_true_eq,Option.some.injEq,Sl.own.injEq,OV.ob.injEq,exists_eq_left',Yd5,Yjv,Yej,Yg3,Yng,Yks,Yl8,Int.reduceLT,Int.reduceLE,Int.reduceNeg,Int.reducePow,Int.reduceToNat,Int.reduceMul,Int.reduceAdd,Int.reduceSub,true_or,or_true,Ylk,Yjc,Ygd,Yjb,Ybt,Ygc,String.reduceBEq,String.reduceEq,decide_true,decide_false,not_true_eq_false,Bool.not_eq_true,Bool.or_self,Bool.or_false,Bool.false_or,Bool.not_not,eq_self,ne_eq,not_true,not_false_eq_true,Yab,Ykp,Yko,Ykn,Ykm,beq_self_eq_true,Bool.true_or,Bool.or_true])
local macro_rules | `(tactic|gn_on)=>`(tactic| (refine Xt3 λN hN=>?_;fin2))
local macro_rules | `(tactic|gp_on)=>`(tactic| (refine hN _ ?_;clear hN;clear N))
set_option hygiene true
section
variable (P:Program)(w:World){K:Frag}{mg:Str->Option Value}(base:Heap)
seal L2.PA L2.PE L2.PS L2.PSs L2.PT L2.PW L2.PG L2.PGs L2.PO L2.PI
def Xsh (b:Bool):Str:=if b then "1" else "0"
theorem Xu2 (b:Bool):(Xsh b).length=1:=by cases b<;>rfl
theorem Xut {α:Type}:∀l:List α,(List.range l.length).filterMap (λk=>l[k]?)=l
 | []=>rfl
 |a::l=>by
  rw[length_cons,List.range_succ_eq_map,filterMap_cons]
  simp only[List.getElem?_cons_zero]
  rw[filterMap_map]
  have e:((λk=>(a::l)[k]?)∘Nat.succ)=λk=>l[k]?:=by funext k;simp
  rw[e,Xut l]
theorem Ybw {n i:Nat}(h:i<=n):Builtin.Str.strSliceIndices (some (i:Int)) none 1 n=(List.range (n-i)).map λk=>i+k:=by
 unfold Builtin.Str.strSliceIndices sliceRange
 have e0:¬ ((i:Int)<0):=by omega
 simp only[e0,if_false,show (1:Int) > 0 by decide,if_true]
 have e:max 0 (min (i:Int) (n:Int))=(i:Int):=by omega
 rw[e]
 have c:(if (i:Int)<(n:Int) then ((n:Int)-(i:Int)+1-1) / 1 else 0).toNat=n-i:=by
  split
  .rw [ediv_one];(clear h e0;omega)
  .omega
 rw[c]
 refine map_congr_left λk _=>?_
 clear h e0;omega
theorem Xtt (x:Str){i:Nat}(h:i<=x.length):Txt.slice x (some (i:Int)) none=⟨(x.cps.toList.drop i).toArray⟩:=by
 have e:((List.range (x.length-i)).map λk=>i+k).filterMap (x.cps[·]?)=x.cps.toList.drop i:=by
  rw[filterMap_map]
  have:=Xut (x.cps.toList.drop i)
  rw[length_drop,length_toList]at this
  rw[<- this]
  refine congrArg (λg=>List.filterMap g _) (funext λk=>?_)
  simp[getElem?_drop]
 unfold Txt.slice
 rw[Ybw h]
 split
 .rename_i c
  have hi:i=0:=by simp at c;omega
  subst hi
  simp
 .rw [e]
def Xcf (bs:List Bool):Str:=Txt.join "" (bs.map Xsh)
theorem Xw2:Xcf []=Str.empty:=rfl
theorem Yec:(Str.ofString "")=⟨#[]⟩:=by decide +kernel
theorem Xgk (b:Bool)(bs:List Bool):Xcf (b::bs)=Xsh b++Xcf bs:=by
 unfold Xcf
 rw[show ∀l,Txt.join (Str.ofString "") l=Str.join (Str.ofString "") l from λl=>PySem.StrLaws.glued_eq_join _ l,show ∀l,Txt.join (Str.ofString "") l=Str.join (Str.ofString "") l from λl=>PySem.StrLaws.glued_eq_join _ l]
 cases bs with
 |nil=>exact (Str.append_empty _).symm
 |cons c cs=>
  show Xsh b++Str.ofString ""++Str.join (Str.ofString "") (Xsh c::cs.map Xsh)=_
  rw[Yec,show (Xsh b++(⟨#[]⟩:Str))=Xsh b from Str.append_empty _]
  rfl
theorem Yg2 (x y:Str):(x++y).length=x.length+y.length:=by
 show (x.cps++y.cps).size=_
 rw[size_append]
 rfl
theorem Xfm:∀bs:List Bool,(Xcf bs).length=bs.length
 | []=>rfl
 |b::bs=>by rw[Xgk,Yg2,Xfm bs,Xu2,length_cons];omega
theorem Xqf:∀(as bs:List Bool),Xcf (as++bs)=Xcf as++Xcf bs
 | [],bs=>(Str.empty_append _).symm
 |a::as,bs=>by rw[cons_append,Xgk,Xqf as bs,Xgk,Str.append_assoc]
theorem Yap (x y:Str):Xxb (x++y)=Xxb x++Xxb y:=by
 show (x.cps++y.cps).toList.map _=_
 rw[toList_append,map_append]
 rfl
theorem Yao (b:Bool):Xxb (Xsh b)=[Xsh b]:=by cases b<;>decide +kernel
theorem Xol:∀bs:List Bool,Xxb (Xcf bs)=bs.map Xsh
 | []=>rfl
 |b::bs=>by rw[Xgk,Yap,Yao,Xol bs];rfl
theorem Yb6 (b:Bool):decide (Xsh b=Str.ofString "1")=b:=by cases b<;>decide +kernel
theorem Yjn {n i:Nat}(h:i<=n):Builtin.Str.strSliceIndices none (some (i:Int)) 1 n=List.range i:=by
 unfold Builtin.Str.strSliceIndices sliceRange
 have e0:¬ ((i:Int)<0):=by omega
 simp only[e0,if_false,show (1:Int) > 0 by decide,if_true]
 have e:max 0 (min (i:Int) (n:Int))=(i:Int):=by omega
 rw[e]
 have c:(if (0:Int)<(i:Int) then ((i:Int)-0+1-1) / 1 else 0).toNat=i:=by
  split
  .rw [ediv_one];(clear h e0;omega)
  .clear h e0;omega
 rw[c]
 refine ext_getElem? λk=>?_
 by_cases hk:k<i
 .simp [hk]
 .simp [hk]
theorem Xzk {α:Type}(l:List α){i:Nat}(h:i<=l.length):(List.range i).filterMap (λk=>l[k]?)=l.take i:=by
 have e:∀n:Nat,n<=l.length->(List.range n).filterMap (λk=>l[k]?)=l.take n:=by
  intro n
  induction n with
  |zero=>intro _;simp
  |succ n ih=>
   intro hn
   rw[range_succ,List.filterMap_append,ih (by omega),List.take_add_one,getElem?_eq_getElem (by omega)]
   simp[getElem?_eq_getElem (show n<l.length by omega)]
 exact e i h
theorem Xwn (x:Str){i:Nat}(h:i<=x.length):Txt.slice x none (some (i:Int))=⟨(x.cps.toList.take i).toArray⟩:=by
 have e:(List.range i).filterMap (x.cps[·]?)=x.cps.toList.take i:=by
  rw[<- Xzk x.cps.toList (show i<=x.cps.toList.length by rw[length_toList];exact h)]
  simp
 unfold Txt.slice
 rw[Yjn h]
 split
 .rename_i c
  have hi:i=x.length:=by simpa using c
  rw[hi,show x.length=x.cps.toList.length by simp;rfl,take_length]
 .rw [e]
theorem Xty (bs:List Bool){i:Nat}(h:i<=bs.length):Txt.slice (Xcf bs) none (some (i:Int))=Xcf (bs.take i):=by
 rw[Xwn _ (by rw[Xfm];exact h)]
 have e:Xcf bs=Xcf (bs.take i)++Xcf (bs.drop i):=by rw[<- Xqf,List.take_append_drop]
 have hl:(Xcf (bs.take i)).cps.toList.length=i:=by
  have:=Xfm (bs.take i)
  rw[length_take,Nat.min_eq_left h]at this
  rw[length_toList]
  exact this
 rw[e]
 show (⟨(((Xcf (bs.take i)).cps++(Xcf (bs.drop i)).cps).toList.take i).toArray⟩:Str)=_
 rw[toList_append,List.take_append_of_le_length (by omega),take_of_length_le (by omega)]
abbrev tx (l:List Nat):Str:=⟨l.toArray⟩
theorem Xc3 (l:List Nat):(tx l).length=l.length:=by show l.toArray.size=_;simp
theorem Xu3 (a b:List Nat):tx a++tx b=tx (a++b):=by
 show Str.mk (a.toArray++b.toArray)=Str.mk _
 simp
theorem Xsb:Str.ofString ""=tx []:=by decide +kernel
theorem Xyx:∀ls:List (List Nat),Txt.join (Str.ofString "") (ls.map tx)=tx ls.flatten:=by
 intro ls
 rw[show ∀l,Txt.join (Str.ofString "") l=Str.join (Str.ofString "") l from λl=>PySem.StrLaws.glued_eq_join _ l]
 induction ls with
 |nil=>exact Xsb.symm▸rfl
 |cons a ls ih=>
  cases ls with
  |nil=>
   show tx a=tx ([a].flatten)
   simp
  |cons b ls=>
   show tx a++Str.ofString ""++Str.join (Str.ofString "") ((b::ls).map tx)=_
   rw[ih,Xsb,Xu3,Xu3,append_nil]
   rfl
theorem Ybu (ns:List Nat):Txt.join (Str.ofString "") (ns.map λn=>tx [n])=tx ns:=by
 have:=Xyx (ns.map λn=>[n])
 rw[map_map]at this
 rw[show (ns.map λn=>tx [n])=ns.map (tx∘λn=>[n]) from rfl,this]
 congr 1
 clear this
 induction ns with
 |nil=>rfl
 |cons n ns ih=>rw[map_cons,flatten_cons,ih];rfl
theorem Xwy:∀(ns:List Nat),((ns.map λn=>tx [n]).map (·.length)).sum=ns.length
 | []=>rfl
 |n::ns=>by rw[map_cons,map_cons,sum_cons,Xwy ns,Xc3,length_cons,length_cons,length_nil];omega
theorem Ygh {n i j:Nat}(h:i<=j)(hj:j<=n):Builtin.Str.strSliceIndices (some (i:Int)) (some (j:Int)) 1 n=(List.range (j-i)).map λk=>i+k:=by
 unfold Builtin.Str.strSliceIndices sliceRange
 have e0:¬ ((i:Int)<0):=by omega
 have e1:¬ ((j:Int)<0):=by omega
 simp only[e0,e1,if_false,show (1:Int) > 0 by decide,if_true]
 have e:max 0 (min (i:Int) (n:Int))=(i:Int):=by omega
 have e':max 0 (min (j:Int) (n:Int))=(j:Int):=by omega
 rw[e,e']
 have c:(if (i:Int)<(j:Int) then ((j:Int)-(i:Int)+1-1) / 1 else 0).toNat=j-i:=by
  split
  .rw [ediv_one];omega
  .omega
 rw[c]
 refine map_congr_left λk _=>?_
 omega
theorem Yd6 (x:Str){i j:Nat}(h:i<=j)(hj:j<=x.length):Txt.slice x (some (i:Int)) (some (j:Int))=tx ((x.cps.toList.drop i).take (j-i)):=by
 have e:((List.range (j-i)).map λk=>i+k).filterMap (x.cps[·]?)=(x.cps.toList.drop i).take (j-i):=by
  rw[filterMap_map]
  rw[<- Xzk (x.cps.toList.drop i) (show j-i<=(x.cps.toList.drop i).length by rw[length_drop,length_toList];have:x.cps.size=x.length:=rfl;omega)]
  refine congrArg (λg=>List.filterMap g _) (funext λk=>?_)
  simp[getElem?_drop]
 unfold Txt.slice
 rw[Ygh h hj]
 split
 .rename_i c
  have hc:j-i=x.length:=by simpa using c
  have hi:i=0:=by omega
  subst hi
  show x=tx ((x.cps.toList.drop 0).take (j-0))
  rw[List.drop_zero,hc,take_of_length_le (by rw[length_toList];exact Nat.le_refl _)]
 .rw [e]
abbrev LET:Str:=Str.ofString "abcdefghijklmnop"
abbrev FRS:List Str:=[Str.ofString "0000",Str.ofString "0001",Str.ofString "0010",Str.ofString "0011",Str.ofString "0100",Str.ofString "0101",Str.ofString "0110",Str.ofString "0111",Str.ofString "1000",Str.ofString "1001",Str.ofString "1010",Str.ofString "1011",Str.ofString "1100",Str.ofString "1101",Str.ofString "1110",Str.ofString "1111"]
def bch (b:Bool):Nat:=if b then 49 else 48
abbrev bT (bs:List Bool):Str:=tx (bs.map bch)
abbrev lT (ns:List Nat):Str:=tx (ns.map (97+·))
def wor (a b c d:Bool):Nat:=a.toNat*8+b.toNat*4+c.toNat*2+d.toNat
def pk:List Bool->List Nat
 |a::b::c::d::r=>wor a b c d::pk r
 | []=>[]
 | [a]=>[wor a false false false]
 | [a,b]=>[wor a b false false]
 | [a,b,c]=>[wor a b c false]
def fr (n:Nat):List Bool:=[decide (n / 8%2=1),decide (n / 4%2=1),decide (n / 2%2=1),decide (n%2=1)]
theorem Xyv:LET.cps.toList=[97,98,99,100,101,102,103,104,105,106,107,108,109,110,111,112]:=by decide +kernel
theorem Yf9:LET.length=16:=by decide +kernel
theorem Yll {n:Nat}(h:n<16):n=0∨n=1∨n=2∨n=3∨n=4∨n=5∨n=6∨n=7∨n=8∨n=9∨n=10∨n=11∨n=12∨n=13∨n=14∨n=15:=by omega
theorem Yi9 {n:Nat}(h:n<16):atI LET.cps.toList (n:Int)=some (97+n):=by
 rw[Xyv]
 refine Xfa ?_
 rcases Yll h with rfl |rfl |rfl |rfl |rfl |rfl |rfl |rfl |rfl |rfl |rfl |rfl |rfl |rfl |rfl |rfl<;>rfl
theorem Yf8 {c:Nat}:c∈LET.cps.toList↔97<=c/\c<=112:=by
 rw[Xyv]
 simp only[mem_cons,not_mem_nil,or_false]
 omega
theorem Ybq {n:Nat}(h:n<16):Txt.find LET (tx [97+n])=(n:Int):=by
 rcases Yll h with rfl |rfl |rfl |rfl |rfl |rfl |rfl |rfl |rfl |rfl |rfl |rfl |rfl |rfl |rfl |rfl<;>decide +kernel
theorem Yjw {n:Nat}(h:n<16):atI (FRS.map D.str) (n:Int)=some (.str (bT (fr n))):=by
 refine Xfa ?_
 rcases Yll h with rfl |rfl |rfl |rfl |rfl |rfl |rfl |rfl |rfl |rfl |rfl |rfl |rfl |rfl |rfl |rfl<;>(rw[getElem?_map];refine congrArg (λy=>some (D.str y)) ?_;decide +kernel)
theorem Xzh (a b c d:Bool):bT [a,b,c,d]∈FRS/\FRS.idxOf (bT [a,b,c,d])=wor a b c d/\wor a b c d<16:=by
 cases a<;>cases b<;>cases c<;>cases d<;>decide +kernel
theorem Xtq (a b c d:Bool):wor a b c d<16:=(Xzh a b c d).2.2
theorem Yip:∀(bs:List Bool),∀n∈pk bs,n<16
 |a::b::c::d::r=>λn hn=>by
  rcases mem_cons.mp hn with e |e
  .rw [e];exact Xtq _ _ _ _
  .exact Yip r n e
 | []=>λn hn=>by cases hn
 | [a]=>λn hn=>by rw[mem_singleton.mp hn];exact Xtq _ _ _ _
 | [a,b]=>λn hn=>by rw[mem_singleton.mp hn];exact Xtq _ _ _ _
 | [a,b,c]=>λn hn=>by rw[mem_singleton.mp hn];exact Xtq _ _ _ _
def fl (bs:List Bool):List Bool:=bs++List.replicate ((4-bs.length%4)%4) false
theorem Ydm (bs:List Bool):∃k,(fl bs).length=4*k/\4*k<bs.length+4:=by
 refine⟨(bs.length+3) / 4,?_,by omega⟩
 unfold fl
 rw[length_append,length_replicate]
 omega
theorem Yff:∀bs:List Bool,pk (fl bs)=pk bs
 |a::b::c::d::r=>by
  have:=Yff r
  unfold fl at this ⊢
  rw[show (a::b::c::d::r).length=r.length+4 from rfl,show (r.length+4)%4=r.length%4 by omega]
  show wor a b c d::pk (r++_)=wor a b c d::pk r
  rw[this]
 | []=>rfl
 | [a]=>rfl
 | [a,b]=>rfl
 | [a,b,c]=>rfl
theorem Ykj:∀(i:Nat) (l:List Bool),4*i+4<=l.length->∃a b c d,(l.drop (4*i)).take 4=[a,b,c,d]/\(pk l)[i]?=some (wor a b c d)
 |i,[],h=>by simp at h
 |i,[_],h=>by simp at h
 |i,[_,_],h=>by simp at h
 |i,[_,_,_],h=>by simp at h
 | 0,a::b::c::d::r,_=>⟨a,b,c,d,rfl,rfl⟩
 |i+1,a::b::c::d::r,h=>by
  obtain⟨a',b',c',d',h1,h2⟩:=Ykj i r (by simp only[length_cons]at h;omega)
  refine⟨a',b',c',d',?_,h2⟩
  rw[show 4*(i+1)=4*i+4 by omega]
  exact h1
theorem Xuf:∀(l:List Bool),(pk l).length=(l.length+3) / 4
 |a::b::c::d::r=>by
  show (pk r).length+1=_
  rw[Xuf r]
  simp only[length_cons]
  omega
 | []=>by rfl
 | [a]=>by show 1=_;simp only[length_cons,length_nil]
 | [a,b]=>by show 1=_;simp only[length_cons,length_nil]
 | [a,b,c]=>by show 1=_;simp only[length_cons,length_nil]
def w4 (l:List Bool):Nat->Nat
 | 0=>0
 |k+1=>w4 l k+(if l[k]?=some true then 8 / 2^k else 0)
theorem Xxu:∀m:Nat,m<4->Yfa (Str.ofString "0") m=bT (List.replicate m false)
 | 0,_=>by decide +kernel
 | 1,_=>by decide +kernel
 | 2,_=>by decide +kernel
 | 3,_=>by decide +kernel
 |n+4,h=>by omega
theorem fr_len (ns:List Nat):(ns.flatMap fr).length=4*ns.length:=by
 induction ns with
 |nil=>rfl
 |cons n ns ih=>rw[List.flatMap_cons,length_append,ih];show 4+_=_;rw[length_cons];omega
abbrev FIG:Str:=Str.ofString "0123456789"
theorem Xzn:FIG.cps.toList=[48,49,50,51,52,53,54,55,56,57]:=by decide +kernel
theorem Yjy {c:Nat}(h:48<=c/\c<=57):FIG.cps.contains c=true:=by
 rw[<- Array.contains_toList,Xzn]
 rcases (show c=48∨c=49∨c=50∨c=51∨c=52∨c=53∨c=54∨c=55∨c=56∨c=57 by omega) with rfl |rfl |rfl |rfl |rfl |rfl |rfl |rfl |rfl |rfl<;>rfl
inductive Dg:Nat->List Nat->Prop
 |one {m:Nat} (h:m<10):Dg m [48+m]
 |more {m:Nat} {l:List Nat} (h:10<=m) (d:Dg (m / 10) l):Dg m (l++[48+m%10])
theorem Dg.ex:∀m:Nat,∃l,Dg m l:=λm=>by
 induction m using Nat.strongRecOn with
 |_ m ih=>
  by_cases h:m<10
  .exact ⟨_,.one h⟩
  .obtain ⟨l,d⟩:=ih (m / 10) (by omega)
   exact⟨_,.more (by omega) d⟩
theorem Dg.dig {m:Nat}{l:List Nat}(d:Dg m l):PySem.NumText.AllDigits l:=by
 induction d with
 |one h=>intro c hc;rw[mem_singleton.mp hc];omega
 |more h d ih=>
  intro c hc
  rcases mem_append.mp hc with z |z
  .exact ih c z
  .rw [mem_singleton.mp z];omega
theorem Dg.val {m:Nat}{l:List Nat}(d:Dg m l):PySem.NumText.digitsVal l=m:=by
 induction d with
 |one h=>show 0*10+(48+_-48)=_;omega
 |more h d ih=>
  unfold PySem.NumText.digitsVal at ih ⊢
  rw[foldl_append,ih]
  show _*10+(48+_%10-48)=_
  omega
theorem Dg.ne {m:Nat}{l:List Nat}(d:Dg m l):0<l.length:=by
 cases d with
 |one h=>exact Nat.one_pos
 |more h d=>rw[length_append];exact Nat.succ_pos _
theorem Dg.len {m:Nat}{l:List Nat}(d:Dg m l):∀k,m<10^(k+1)->l.length<=k+1:=by
 induction d with
 |one h=>intro k _;exact Nat.succ_le_succ (zero_le _)
 | @more m l h d ih=>
  intro k hk
  rw[length_append,length_singleton]
  cases k with
  |zero=>omega
  |succ k=>
   have:=ih k (by rw[pow_succ]at hk;omega)
   omega
theorem Dg.zero {m:Nat}{l r:List Nat}(d:Dg m l)(e:l=48::r):m=0/\l=[48]:=by
 induction d generalizing r with
 |one h=>
  have:=(List.cons.inj e).1
  exact⟨by omega,by rw[this]⟩
 | @more m l h d ih=>
  cases l with
  |nil=>exact absurd d.ne (lt_irrefl _)
  |cons c cs=>
   have e1:c=48:=(List.cons.inj e).1
   subst e1
   have:=(ih rfl).1
   omega
theorem Xir {c d:Nat}{l:List Nat}:Txt.startswith (tx (d::l)) (tx [c])=decide (d=c):=by
 unfold Txt.startswith
 show (decide (0+1<=(tx (d::l)).length) && ((tx (d::l)).cps.extract 0 (0+1)==#[c]))=_
 rw[Xc3]
 have e:(tx (d::l)).cps.extract 0 (0+1)=#[d]:=by simp
 rw[e]
 simp
 rfl
theorem Xit:Str.ofString "-"=tx [45]:=by decide +kernel
theorem Xwi:Str.ofString "0"=tx [48]:=by decide +kernel
theorem Xw8 {d:Nat}{l:List Nat}:Txt.slice (tx (d::l)) (some 1) none=tx l:=by
 rw[show (some (1:Int))=some ((1:Nat):Int) from rfl,Xtt _ (by rw[Xc3];simp)]
 simp
theorem Ycg {p:Nat->Bool}:∀(l:List Nat),(∀c∈l,p c=true)->l.takeWhile p=l
 | [],_=>rfl
 |c::l,h=>by rw[List.takeWhile_cons,h c mem_cons_self,if_pos rfl,Ycg l λd hd=>h d (mem_cons_of_mem _ hd)]
theorem Xw0 {l:List Nat}{y:Str}(h:∀c∈l,y.cps.contains c=true):Txt.stripChars (tx l) y=tx []:=by
 have lo:PySem.stripLo y.cps.contains true (tx l)=l.length:=by
  simp only[PySem.stripLo,if_true]
  rw[Ycg _ h]
 unfold Txt.stripChars Txt.stripBy
 split
 .rename_i z
  unfold PySem.stripSame at z
  rw[lo]at z
  have hx:l.length=0:=by
   have:=(and_eq_true _ _).mp z
   simpa using this.1
  rw[List.length_eq_zero_iff.mp hx]
 .unfold PySem.stripped
  rw[lo]
  show (⟨l.toArray.extract l.length _⟩:Str)=_
  congr 1
  refine Array.eq_empty_of_size_eq_zero ?_
  rw[Array.size_extract]
  simp
  omega
def Xv8 (x:Str):Str:=if Txt.startswith x (Str.ofString "-")=true then Txt.slice x (some 1) none else x
def Ykl (x:Str):Bool:=!decide (Txt.stripChars (Xv8 x) (Str.ofString "0123456789")=Str.ofString "") || !(decide ((1:Int)<=((Xv8 x).length:Int)) && decide (((Xv8 x).length:Int)<=4)) || (Txt.startswith (Xv8 x) (Str.ofString "0") && !decide (x=Str.ofString "0"))
theorem Xv7 {l:List Nat}:Xv8 (tx (45::l))=tx l:=by
 unfold Xv8
 rw[Xit,Xir,if_pos (by decide),Xw8]
theorem Xv6 {d:Nat}{l:List Nat}(h:d≠45):Xv8 (tx (d::l))=tx (d::l):=by
 unfold Xv8
 rw[Xit,Xir,if_neg (by simp[h])]
theorem fig_at {r:Nat}(h:r<10):atI FIG.cps.toList (r:Int)=some (48+r):=by
 rw[Xzn]
 refine Xfa ?_
 rcases (show r=0∨r=1∨r=2∨r=3∨r=4∨r=5∨r=6∨r=7∨r=8∨r=9 by omega) with rfl |rfl |rfl |rfl |rfl |rfl |rfl |rfl |rfl |rfl<;>rfl
theorem Xz1 {m:Nat}(h:m<10):(Nat.digitChar m).toNat=48+m:=by
 rcases (show m=0∨m=1∨m=2∨m=3∨m=4∨m=5∨m=6∨m=7∨m=8∨m=9 by omega) with rfl |rfl |rfl |rfl |rfl |rfl |rfl |rfl |rfl |rfl<;>rfl
theorem Xzr:∀{m:Nat} {l:List Nat},Dg m l->(Nat.toDigits 10 m).map Char.toNat=l
 |m,_,.one h=>by rw[Nat.toDigits_of_lt_base h,List.map_singleton,Xz1 h]
 |m,_,.more h d=>by
  rw[Nat.toDigits_of_base_le (by decide) h,map_append,Xzr d,List.map_singleton,Xz1 (Nat.mod_lt _ (by decide))]
theorem Yeb {m:Nat}{l:List Nat}(d:Dg m l):Str.ofString (toString (m:Int))=tx l:=by
 rw[show toString ((m:Nat):Int)=Nat.repr m from rfl,PySem.Str.ofString_eq_byList]
 show (⟨((String.ofList (Nat.toDigits 10 m)).toList.map Char.toNat).toArray⟩:Str)=_
 rw[String.toList_ofList,Xzr d]
theorem Yea {m:Nat}{l:List Nat}(h:0<m)(d:Dg m l):Str.ofString (toString (-(m:Int)))=tx (45::l):=by
 obtain⟨k,rfl⟩:∃k,m=k+1:=⟨m-1,by omega⟩
 rw[show toString (-((k+1:Nat):Int)) = "-"++Nat.repr (k+1) from rfl,PySem.Str.ofString_eq_byList]
 show (⟨(("-"++String.ofList (Nat.toDigits 10 (k+1))).toList.map Char.toNat).toArray⟩:Str)=_
 rw[String.toList_append,map_append,String.toList_ofList,String.toList_ofList,Xzr d]
 rfl
def Ybk (n:Int)(l:List Nat):Prop:=∃r,Dg n.natAbs r/\l=if n<0 then 45::r else r
theorem Ybk.ex (n:Int):∃l,Ybk n l:=by
 obtain⟨r,d⟩:=Dg.ex n.natAbs
 exact⟨_,r,d,rfl⟩
theorem Ybk.str {n:Int}{l:List Nat}(h:Ybk n l):Str.ofString (toString n)=tx l:=by
 obtain⟨r,d,rfl⟩:=h
 by_cases z:n<0
 .rw [if_pos z,<- Yea (by omega) d]
  congr 2
  omega
 .rw [if_neg z,<- Yeb d]
  congr 2
  omega
def jn (c:Nat):List (List Nat)->List Nat
 | []=>[]
 | [w]=>w
 |w::v::ws=>w++c::jn c (v::ws)
theorem Ydx {c:Nat}:∀{w p a b:List Nat},c∉w->c∉p->w++c::a=p++c::b->w=p/\a=b
 | [],[],a,b,_,_,h=>⟨rfl,(List.cons.inj h).2⟩
 | [],y::p,a,b,_,hp,h=>absurd (mem_cons.mpr (.inl (List.cons.inj h).1)) hp
 |x::w,[],a,b,hw,_,h=>absurd (mem_cons.mpr (.inl (List.cons.inj h).1.symm)) hw
 |x::w,y::p,a,b,hw,hp,h=>by
  obtain⟨h1,h2⟩:=List.cons.inj h
  obtain⟨h3,h4⟩:=Ydx (λz=>hw (mem_cons_of_mem _ z)) (λz=>hp (mem_cons_of_mem _ z)) h2
  exact⟨by rw[h1,h3],h4⟩
theorem Ydh {c:Nat}:∀{ws ps:List (List Nat)},ws≠[]->ps≠[]->(∀w∈ws,c∉w)->(∀p∈ps,c∉p)->jn c ws=jn c ps->ws=ps
 | [],_,h,_,_,_,_=>absurd rfl h
 |_,[],_,h,_,_,_=>absurd rfl h
 | [w],[p],_,_,_,_,h=>by rw[show w=p from h]
 | [w],p::q::ps,_,_,hw,_,h=>absurd (show c∈w by rw[show w=p++c::jn c (q::ps) from h];simp) (hw w mem_cons_self)
 |w::v::ws,[p],_,_,_,hp,h=>absurd (show c∈p by rw[show p=w++c::jn c (v::ws) from h.symm];simp) (hp p mem_cons_self)
 |w::v::ws,p::q::ps,_,_,hw,hp,h=>by
  obtain⟨h1,h2⟩:=Ydx (hw w mem_cons_self) (hp p mem_cons_self) (show w++c::jn c (v::ws)=p++c::jn c (q::ps) from h)
  rw[h1,Ydh (by simp) (by simp) (λx hx=>hw x (mem_cons_of_mem _ hx)) (λx hx=>hp x (mem_cons_of_mem _ hx)) h2]
theorem Xjp (c:Nat):∀ls:List Str,(Str.join ⟨#[c]⟩ ls).cps.toList=jn c (ls.map λx=>x.cps.toList)
 | []=>rfl
 | [x]=>rfl
 |x::y::r=>by
  show (x++⟨#[c]⟩++Str.join ⟨#[c]⟩ (y::r)).cps.toList=x.cps.toList++c::jn c ((y::r).map λx=>x.cps.toList)
  rw[<- Xjp c (y::r)]
  show ((x.cps++#[c])++(Str.join ⟨#[c]⟩ (y::r)).cps).toList=_
  simp
theorem Xji (c:Nat)(ws:List Str)(h0:ws≠[])(h:∀w∈ws,c∉w.cps.toList):Txt.split (Str.join ⟨#[c]⟩ ws) ⟨#[c]⟩=ws:=by
 have e1:=PySem.StrLaws.join_split (Str.join ⟨#[c]⟩ ws) ⟨#[c]⟩
 have e2:=PySem.StrLaws.split_free (Str.join ⟨#[c]⟩ ws) c
 have hp:Txt.split (Str.join ⟨#[c]⟩ ws) ⟨#[c]⟩≠[]:=λz=>by
  have e3:=e1
  rw[z]at e3
  have e4:Txt.split (Str.join ⟨#[c]⟩ ws) ⟨#[c]⟩=[Str.join ⟨#[c]⟩ ws]:=if_pos (by
   rw[or_eq_true]
   exact .inl (decide_eq_true (by rw[<- e3];exact Nat.zero_lt_one)))
  rw[e4]at z
  cases z
 generalize Txt.split (Str.join ⟨#[c]⟩ ws) ⟨#[c]⟩=ps at e1 e2 hp
 have e4:=congrArg (λx:Str=>x.cps.toList) e1
 simp only[Xjp]at e4
 have e5:=Ydh (c:=c) (by simpa using hp) (by simpa using h0) (λw hw=>by obtain⟨x,hx,rfl⟩:=mem_map.mp hw;exact e2 x hx) (λw hw=>by obtain⟨x,hx,rfl⟩:=mem_map.mp hw;exact h x hx) e4
 have inj:∀{as bs:List Str},as.map (λx=>x.cps.toList)=bs.map (λx=>x.cps.toList)->as=bs:=λ{as bs} e=>by
  refine List.map_inj_right (f:=λx:Str=>x.cps.toList) (λa b q=>?_) |>.mp e
  obtain⟨a⟩:=a
  obtain⟨b⟩:=b
  congr 1
  exact Array.toList_inj.mp q
 exact inj e5
def ns_Walk:List Str:=["plane","used","row_ends","walked","ahead"]
structure Pa where
 a:Int
 s:Int
 e:Int
 lo:Int
 hi:Int
def Pa.d (p:Pa):D:=.tup [.int p.a,.int p.s,.int p.e,.tup [.int p.lo,.int p.hi]]
structure Wk where
 pl:Int
 us:Int
 re:List Int
 wk:List Pa
 ah:List Pa
def Wk.ts (w:Wk):List OV:=[.fz (.int w.pl),.fz (.int w.us),.nl (w.re.map λi=>.fz (.int i)),.nl (w.wk.map λp=>.fz p.d),.nl (w.ah.map λp=>.fz p.d)]
def Wk.turn (w:Wk):Wk:=if w.pl-1>=0 then {w with pl:=w.pl-1,ah:=w.wk.reverse,wk:=[]} else {w with pl:=w.pl-1}
def Wk.wake (w:Wk)(p:Pa):Wk:=if p.e-p.s=1 then {w with ah:=w.ah++[⟨2,p.s,p.e,p.lo,p.hi⟩]} else {w with ah:=w.ah++[⟨0,(p.s+p.e) / 2,p.e,p.lo,p.hi⟩,⟨1,p.s,(p.s+p.e) / 2,p.lo,p.hi⟩]}
def Wk.fits (w:Wk):Prop:=w.re.length<900000/\w.wk.length<900000/\w.ah.length<900000
def Xi5:DSp:=λds P=>∃p:Pa,ds=[p.d]/\P (.fz (.bl (decide (p.e-p.s=1))))
def Xh4:DSp:=λds P=>∃n:Nat,ds=[.int n]/\n<=5000/\P (.fz (.tup [.int (1-2^n),.int (2^n-1)]))
def Xi3:DSp:=λds P=>∃(n:Nat) (b:Bool),ds=[.int n,.bl b]/\n<=5000/\P (.fz (if b then .tup [.int (1-2^n-2^n),.int (-2^n)] else .tup [.int (2^n),.int (2^n+2^n-1)]))
def Xh3:DSp:=λds P=>∃(lo hi:Int) (n:Nat) (b:Bool),ds=[.tup [.int lo,.int hi],.int n,.bl b]/\n<=5000/\P (.fz (if b=decide (lo > 0) then .tup [.int (lo+2^n),.int hi] else .tup [.int lo,.int (hi-2^n)]))
def Xh6:DMo:=λts ds P=>∃w:Wk,ts=w.ts/\w.wk.length<=1000000/\ds=[]/\P w.turn.ts
def Xe5:DMo:=λts ds P=>∃(m:Int) (n:Nat),ts=[]/\ds=[.int m,.int n]/\n<=5000/\P (Wk.turn ⟨n,0,[],[⟨0,0,m,1-2^n,2^n-1⟩],[]⟩).ts
def Xf5:DMo:=λts ds P=>∃(w:Wk) (p:Pa) (lo hi:Int),ts=w.ts/\w.wk.length<1000000/\ds=[p.d,.tup [.int lo,.int hi]]/\P {w with wk:=w.wk++[⟨3,p.s,p.e,lo,hi⟩]:Wk}.ts
def Xh5:DMo:=λts ds P=>∃(w:Wk) (p:Pa),ts=w.ts/\w.ah.length<900000/\ds=[p.d]/\P (w.wake p).ts
def Xdo:DSp:=λds P=>∃w:Wk,ds=[.obj "Walk" ns_Walk (OV.vals w.ts)]/\P (.fz (.bl (decide (w.pl<0))))
def Wk.walked (w:Wk)(p:Pa):Wk:={w with wk:=w.wk++[p]}
def Wk.calm (w:Wk)(p:Pa):Wk:=if p.a=1 then {w.walked ⟨0,p.s,p.e,1-2^w.pl.toNat,2^w.pl.toNat-1⟩ with ah:=w.ah.dropLast:Wk}.wake (w.ah.getLastD p) else w.walked ⟨0,p.s,p.e,1-2^w.pl.toNat,2^w.pl.toNat-1⟩
def Pa.figured (p:Pa)(n:Nat)(b:Bool):Pa:=if b=decide (p.lo > 0) then ⟨3,p.s,p.e,p.lo+2^n,p.hi⟩ else ⟨3,p.s,p.e,p.lo,p.hi-2^n⟩
def Pa.signed (p:Pa)(n:Nat)(b:Bool):Pa:=if b then ⟨3,p.s,p.e,1-2^n-2^n,-2^n⟩ else ⟨3,p.s,p.e,2^n,2^n+2^n-1⟩
def Wk.step (w:Wk)(ah:List Pa)(p:Pa)(b:Bool):Wk:=
 if p.a=3 then {w with us:=w.us+1,ah:=ah,wk:=w.wk++[p.figured w.pl.toNat b]} else if p.a=2 then {w with us:=w.us+1,ah:=ah,wk:=w.wk++[p.signed w.pl.toNat b]}
 else if b then Wk.wake {w with us:=w.us+1,ah:=ah} p else Wk.calm {w with us:=w.us+1,ah:=ah} p
def Wk.rowEnd (w:Wk):Wk:=if w.ah=[] then Wk.turn {w with re:=w.re++[w.us]} else w
def Xld:DMo:=λts ds P=>∃(w:Wk) (p:Pa),ts=w.ts/\(w.wk.length<1000000/\w.ah.length<900000)/\ds=[p.d]/\0<=w.pl/\w.pl<=5000/\(p.a=1->w.ah≠[])/\P (w.calm p).ts
def Xh7:DMo:=λts ds P=>∃(w:Wk) (ah:List Pa) (p:Pa) (b:Bool),ts=w.ts/\w.fits/\ds=[.bl b]/\w.ah=ah++[p]/\0<=w.pl/\w.pl<=5000/\(p.a=1->b=false->ah≠[])/\P ((w.step ah p b).rowEnd).ts
theorem Xso (n:Nat):(1:Int)*2^((n:Int).toNat)=2^n:=by rw[one_mul,toNat_natCast]
theorem Xqo {n:Nat}(h:n<=5000):0<=(n:Int)/\(n:Int)<=1000000/\Int.natAbs 1<2^64:=⟨by omega,by omega,by decide⟩
theorem Xya (ps:List Pa):(ps.map λp=>OV.fz p.d).map OV.val=ps.map Pa.d:=by rw[map_map];rfl
theorem Yit (ps:List Pa):D.lfs (ps.map Pa.d)=true:=by
 rw[D.lfs_eq]
 simp[Pa.d,D.lf,D.lfs]
theorem Yiu (p:Pa):p.d.lf=true:=by simp[Pa.d,D.lf,D.lfs]
theorem Yis (ps:List Pa):List.map OV.fz (ps.map Pa.d).reverse=ps.reverse.map λp=>OV.fz p.d:=by rw[<- map_reverse,map_map];rfl
theorem Yiv (ps:List Pa)(p:Pa):(ps.map λp=>OV.fz p.d)++[OV.fz p.d]=(ps++[p]).map λp=>OV.fz p.d:=by simp
theorem Xm0 (ps:List Pa)(a s e lo hi:Int):(ps.map λp=>OV.fz p.d)++[OV.fz (.tup [.int a,.int s,.int e,.tup [.int lo,.int hi]])]=(ps++[(⟨a,s,e,lo,hi⟩:Pa)]).map λ(p:Pa)=>OV.fz p.d:=Yiv ps ⟨a,s,e,lo,hi⟩
theorem Xre (p:Pa):p.d = .tup [.int p.a,.int p.s,.int p.e,.tup [.int p.lo,.int p.hi]]:=rfl
abbrev Xco:Stmt:=top 25
theorem Xnt:FnScope ["part"] ["part"] (Xac Xco):=by walk_at "S"
abbrev Xdv:Stmt:=top 26
theorem Xqw:FnScope ["plane"] ["plane"] (Xac Xdv):=by walk_at "S"
abbrev Xcm:Stmt:=top 27
theorem Xjb:FnScope ["plane","below","least"] ["plane","below"] (Xac Xcm):=by walk_at "S"
abbrev Xb9:Stmt:=top 28
theorem Xmk:FnScope ["span","plane","figure"] ["span","plane","figure"] (Xac Xb9):=by walk_at "S"
abbrev Xdx:Stmt:=Xhb (top 29) 1
theorem Xqy:FnScope ["self"] ["self"] (Xac Xdx):=by walk_at "S"
abbrev Xby:Stmt:=Xhb (top 29) 0
theorem Xlr:FnScope ["self","many","planes"] ["self","many","planes"] (Xac Xby):=by walk_at "S"
abbrev Xbo:Stmt:=Xhb (top 29) 7
theorem Xj4:FnScope ["self","part","span"] ["self","part","span"] (Xac Xbo):=by walk_at "S"
abbrev Xdw:Stmt:=Xhb (top 29) 8
theorem Xle:FnScope ["self","part","middle"] ["self","part"] (Xac Xdw):=by walk_at "S"
abbrev Xbx:Stmt:=Xhb (top 29) 2
theorem Xlq:FnScope ["self"] ["self"] (Xac Xbx):=by walk_at "S"
abbrev Xdz:Stmt:=Xhb (top 29) 9
theorem Xqz:FnScope ["self","part"] ["self","part"] (Xac Xdz):=by walk_at "S"
abbrev Xdy:Stmt:=Xhb (top 29) 6
theorem Xlf:FnScope ["self","told","part"] ["self","told"] (Xac Xdy):=by walk_at "S"
theorem Xnz {f:Addr}{fd:FuncData}(Df:DefAt K mg "part_of_one" Xco f fd)(B:BltV mg)(KV:KitV K)(CV_Walk:ClsV K "Walk" ns_Walk)(Xif:∃t,mg "END"=some (.int 2 t))(Xc2:∃t,mg "START"=some (.int 1 t)):
  Cal P w K mg base "part_of_one" 1 ["part"] (spV K 1 Xi5):=by
 refine CalV.of Df Xnt (by walk_at "b") rfl (λc A o s H E hr=>⟨_,_,(Xaj (Xax (Xfv Xi1 (Xaz Xfb (Xbc Xa9 (pv 0) (Xat (by rfl) Xif) (λ_ _=>rfl)) (Xbc Xa9 (pv 0) (Xat (by rfl) Xc2) (λ_ _=>rfl))) Xal (Xbg _)))),
  (Xa1 (Xbf (Xas Xi2 (Xaq (Xas Xc1 (Xca (OpF.b Xa8) Xae (Xaq Xai)) (Xca (OpF.b Xa8) Xae (Xaq Xai)))) (Xaq Xai)))),?_⟩)
 rintro ds Pr ⟨p,rfl,h⟩
 unfold Pa.d
 fin2
 exact h
theorem Xrp {f:Addr}{fd:FuncData}(Df:DefAt K mg "calm_span" Xdv f fd)(B:BltV mg)(KV:KitV K)(CV_Walk:ClsV K "Walk" ns_Walk):
  Cal P w K mg base "calm_span" 1 ["plane"] (spV K 1 Xh4):=by
 refine CalV.of Df Xqw (by walk_at "b") rfl (λc A o s H E hr=>⟨_,_,(Xaj (Xax (Xcc (Xaa (Xaz Xfb Xal (Xaz Xkd Xal (pv 0))) (Xaa (Xaz Xfb (Xaz Xkd Xal (pv 0)) Xal) Xad))))),
  (Xa1 (Xbf (Xdj (Xab (Xas Xc1 (Xaq Xai) (Xaq (Xas Xey (Xaq Xai) Xae))) (Xab (Xas Xc1 (Xaq (Xas Xey (Xaq Xai) Xae)) (Xaq Xai)) Xak))))),?_⟩)
 rintro ds Pr ⟨n,rfl,hn,h⟩
 fin2
 refine⟨Xqo hn,Xqo hn,?_⟩
 rw[Xso]
 exact h
theorem Xnw {f:Addr}{fd:FuncData}(Df:DefAt K mg "signed_span" Xcm f fd)(B:BltV mg)(KV:KitV K)(CV_Walk:ClsV K "Walk" ns_Walk):
  Cal P w K mg base "signed_span" 1 ["plane","below"] (spV K 2 Xi3):=by
 refine CalV.of Df Xjb (by walk_at "b") rfl (λc A o s H E hr=>⟨_,_,(Xag (Xa6 (i:=2) Xjb.nd rfl (Or.inl rfl) (Xaz Xkd Xal (pv 0)))
   (Xag (Xcb (Xch (pv 1)) (Xaj (Xax (Xcc (Xaa (Xaz Xfb (Xaz Xfb Xal (pv 2)) (pv 2)) (Xaa (Yfj Xwm (pv 2)) Xad))))) Xbb)
   (Xaj (Xax (Xcc (Xaa (pv 2) (Xaa (Xaz Xfb (Xaz Xef (pv 2) (pv 2)) Xal) Xad))))))),
  (Xao (Xa2 (Xbf (Xas Xey (Xaq Xai) Xae)))
   (Xao (Xcg (Xkm Xah) (Xa1 (Xbf (Xdj (Xab (Xas Xc1 (Xaq (Xas Xc1 (Xaq Xai) Xae)) Xae) (Xab (Xxq Xae) Xak))))) Xba)
   (Xa1 (Xbf (Xdj (Xab Xah (Xab (Xas Xc1 (Xaq (Xas Xc1 Xae Xae)) (Xaq Xai)) Xak))))))),?_⟩)
 rintro ds Pr ⟨n,b,rfl,hn,h⟩
 fin2
 refine⟨Xqo hn,?_⟩
 rw[Xso]
 cases b with
 |true=>rw[if_pos rfl]at h ⊢;exact h
 |false=>rw[if_neg (by decide)]at h ⊢;exact h
theorem Xm3 {f:Addr}{fd:FuncData}(Df:DefAt K mg "figured_span" Xb9 f fd)(B:BltV mg)(KV:KitV K)(CV_Walk:ClsV K "Walk" ns_Walk):
  Cal P w K mg base "figured_span" 1 ["span","plane","figure"] (spV K 3 Xh3):=by
 refine CalV.of Df Xmk (by walk_at "b") rfl (λc A o s H E hr=>⟨_,_,(Xag (Xcb (Xbe Xi1 (pv 2) (Xfv Ybe (Xbc Xa9 (pv 0) Xal (λ_ _=>rfl)) Xal (Xbg _)) (Xbg _)) (Xaj (Xax (Xcc (Xaa (Xaz Xef (Xbc Xa9 (pv 0) Xal (λ_ _=>rfl)) (Xaz Xkd Xal (pv 1))) (Xaa (Xbc Xa9 (pv 0) Xal (λ_ _=>rfl)) Xad))))) Xbb)
   (Xaj (Xax (Xcc (Xaa (Xbc Xa9 (pv 0) Xal (λ_ _=>rfl)) (Xaa (Xaz Xfb (Xbc Xa9 (pv 0) Xal (λ_ _=>rfl)) (Xaz Xkd Xal (pv 1))) Xad)))))),
  (Xao (Xcg (Xbd (Xas Xi2 Xae (Xaq (Xas Xhu (Xca (OpF.b Xa8) Xae (Xaq Xai)) (Xaq Xai))))) (Xa1 (Xbf (Xdj (Xab (Xas Xc1 (Xca (OpF.b Xa8) Xae (Xaq Xai)) (Xaq (Xas Xey (Xaq Xai) Xae))) (Xab (Xbs Xa8 Xah Xai) Xak))))) Xba)
   (Xa1 (Xbf (Xdj (Xab (Xbs Xa8 Xah Xai) (Xab (Xas Xc1 (Xca (OpF.b Xa8) Xae (Xaq Xai)) (Xaq (Xas Xey (Xaq Xai) Xae))) Xak)))))),?_⟩)
 rintro ds Pr ⟨lo,hi,n,b,rfl,hn,h⟩
 fin2
 rw[Xso]
 split at h
 .rename_i c;rw[if_pos c];exact⟨Xqo hn,h⟩
 .rename_i c;rw[if_neg c];exact⟨Xqo hn,h⟩
theorem Xrr {f:Addr}{fd:FuncData}(Df:MetAt K "Walk" "turn" "Walk.turn" Xdx f fd)(B:BltV mg)(KV:KitV K)(CV_Walk:ClsV K "Walk" ns_Walk):
  CalM P w K mg base "Walk" "turn" 1 ["self"] (spM K 1 "Walk" ns_Walk Xh6):=by
 refine CalM.of Df Xqy (by walk_at "b") rfl (λc A o s H E hr=>⟨_,_,(Xag (Xq9 (pv 0) Xal Yjl)
   (Xaj (Xcb (Xbe Ybf (Xd3 (pv 0) rfl) Xal (Xbg _)) (Xag (Xmw (pv 0) (Xvm rfl B.list rfl B.reversed (Xaa (Xd3 (pv 0) rfl) Xad)) rfl)
   (Xaj (Xmw (pv 0) (Xc0 Xad) rfl))) Xbb))),
  (Xao (Xxg (j:=0) (g:=λx y=>x-y) CV_Walk (by rfl) (λx y H Q q=>⟨_,_,rfl,rfl,q⟩) (Xaq Xai))
   (Xcg (Xbd (Xas Xhu (Xhq (j:=0) CV_Walk (by rfl) Xae) (Xaq Xai))) (Xao (Xxe (j:=4) CV_Walk (by rfl) (Xvi (Xaf (Xhq (j:=3) CV_Walk (by rfl) Xae) Xam)))
   (Xxe (j:=3) CV_Walk (by rfl) (Xee Xcz))) Xba)),?_⟩)
 rintro a ts ds Pr ⟨w,rfl,hf,rfl,h⟩
 unfold Wk.ts
 fin2
 rw[Xya,Yis]
 unfold Wk.turn at h
 split at h
 .rename_i c
  rw[if_pos c]
  exact⟨by decide,Yit _,hf,by decide,h⟩
 .rename_i c
  rw[if_neg c]
  exact h
theorem Xlu {f:Addr}{fd:FuncData}(Df:Fun K "__init__" "Walk.__init__" Xby f fd)(Mf:MakAt K mg "Walk" f)(B:BltV mg)(KV:KitV K)(CV_Walk:ClsV K "Walk" ns_Walk)(Xfg:∃t,mg "WAKING"=some (.int 0 t))(Xeq:Cal P w K mg base "calm_span" 1 ["plane"] (spV K 1 Xh4))(Xes:CalM P w K mg base "Walk" "turn" 1 ["self"] (spM K 1 "Walk" ns_Walk Xh6)):
  CalK P w K mg base "Walk" 2 ["self","many","planes"] (spM K 3 "Walk" ns_Walk Xe5):=by
 refine CalK.of Df Mf Xlr (by walk_at "b") rfl (λc A o s H E hr=>⟨_,_,(Xag (Xmw (pv 0) (pv 2) rfl)
   (Xag (Xmw (pv 0) Xal rfl)
   (Xag (Xmw (pv 0) (Xc0 Xad) rfl)
   (Xag (Xmw (pv 0) (Xc0 (Xaa (Xcc (Xaa (Xat (by rfl) Xfg) (Xaa Xal (Xaa (pv 1) (Xaa (Xa0 Xeq (hr.mono (by decide)) (by rfl) (Xaa (pv 2) Xad)) Xad))))) Xad)) rfl)
   (Xag (Xmw (pv 0) (Xc0 Xad) rfl)
   (Xaj (Xbz (Xis Xes (hr.mono (by decide)) (pv 0))))))))),
  (Xao (Xmp (j:=0) CV_Walk (by rfl) (Xbf Xah))
   (Xao (Xmp (j:=1) CV_Walk (by rfl) (Xbf Xai))
   (Xao (Xmp (j:=2) CV_Walk (by rfl) (Xee Xcz))
   (Xao (Xmp (j:=3) CV_Walk (by rfl) (Xee (Xde (Xbf (Xdj (Xab Xai (Xab Xai (Xab Xah (Xab (Xb8 (Xau (Xab Xah Xak))) Xak)))))) Xcz)))
   (Xao (Xmp (j:=4) CV_Walk (by rfl) (Xee Xcz))
   (Xg3 CV_Walk (by decide +kernel) Xak)))))),?_⟩)
 rintro a ts ds Pr ⟨m,n,rfl,rfl,hn,h⟩
 fin2
 refine⟨n,rfl,hn,?_⟩
 fin2
 refine⟨⟨n,0,[],[⟨0,0,m,1-2^n,2^n-1⟩],[]⟩,rfl,(by show 1<=1000000;decide),rfl,?_⟩
 exact h
theorem Xke {f:Addr}{fd:FuncData}(Df:MetAt K "Walk" "walk_awake" "Walk.walk_awake" Xbo f fd)(B:BltV mg)(KV:KitV K)(CV_Walk:ClsV K "Walk" ns_Walk)(Xfh:∃t,mg "FIGURE"=some (.int 3 t))(Xc2:∃t,mg "START"=some (.int 1 t))(Xif:∃t,mg "END"=some (.int 2 t)):
  CalM P w K mg base "Walk" "walk_awake" 1 ["self","part","span"] (spM K 3 "Walk" ns_Walk Xf5):=by
 refine CalM.of Df Xj4 (by walk_at "b") rfl (λc A o s H E hr=>⟨_,_,(Xaj (Xbz (Xec plainAttrs_list PySem.F.slot_list_append PySem.F.type_list_append Xcw (Xd3 (pv 0) rfl) (Xaa (Xcc (Xaa (Xat (by rfl) Xfh) (Xaa (Xbc Xa9 (pv 1) (Xat (by rfl) Xc2) (λ_ _=>rfl)) (Xaa (Xbc Xa9 (pv 1) (Xat (by rfl) Xif) (λ_ _=>rfl)) (Xaa (pv 2) Xad))))) Xad)))),
  (Xkr (j:=3) CV_Walk (by rfl) (Xbf (Xdj (Xab Xai (Xab (Xbs Xa8 Xah Xai) (Xab (Xbs Xa8 Xah Xai) (Xab Xah Xak))))))),?_⟩)
 rintro a ts ds Pr ⟨w,p,lo,hi,rfl,hf,rfl,h⟩
 rw[Xre]
 unfold Wk.ts
 fin2
 rw[Xm0]
 exact⟨hf,h⟩
theorem Xrq {f:Addr}{fd:FuncData}(Df:MetAt K "Walk" "wake" "Walk.wake" Xdw f fd)(B:BltV mg)(KV:KitV K)(CV_Walk:ClsV K "Walk" ns_Walk)(Xkh:∃t,mg "SIGN"=some (.int 2 t))(Xfg:∃t,mg "WAKING"=some (.int 0 t))(Xcy:∃t,mg "WAKING_FIRST"=some (.int 1 t))(Xc2:∃t,mg "START"=some (.int 1 t))(Xif:∃t,mg "END"=some (.int 2 t))(Xln:∃t,mg "SPAN"=some (.int 3 t))(Xhj:Cal P w K mg base "part_of_one" 1 ["part"] (spV K 1 Xi5)):
  CalM P w K mg base "Walk" "wake" 2 ["self","part"] (spM K 2 "Walk" ns_Walk Xh5):=by
 refine CalM.of Df Xle (by walk_at "b") rfl (λc A o s H E hr=>⟨_,_,(Xaj (Xcb (Xch (Xa0 Xhj (hr.mono (by decide)) (by rfl) (Xaa (pv 1) Xad))) (Xaj (Xbz (Xec plainAttrs_list PySem.F.slot_list_append PySem.F.type_list_append Xcw (Xd3 (pv 0) rfl) (Xaa (Xcc (Xaa (Xat (by rfl) Xkh) (Xaa (Xbc Xa9 (pv 1) (Xat (by rfl) Xc2) (λ_ _=>rfl)) (Xaa (Xbc Xa9 (pv 1) (Xat (by rfl) Xif) (λ_ _=>rfl)) (Xaa (Xbc Xa9 (pv 1) (Xat (by rfl) Xln) (λ_ _=>rfl)) Xad))))) Xad)))) (Xag (Xa6 (i:=2) Xle.nd rfl (Or.inl rfl) (Xaz Xe7 (Xaz Xef (Xbc Xa9 (pv 1) (Xat (by rfl) Xc2) (λ_ _=>rfl)) (Xbc Xa9 (pv 1) (Xat (by rfl) Xif) (λ_ _=>rfl))) Xal))
   (Xag (Xbz (Xec plainAttrs_list PySem.F.slot_list_append PySem.F.type_list_append Xcw (Xd3 (pv 0) rfl) (Xaa (Xcc (Xaa (Xat (by rfl) Xfg) (Xaa (pv 2) (Xaa (Xbc Xa9 (pv 1) (Xat (by rfl) Xif) (λ_ _=>rfl)) (Xaa (Xbc Xa9 (pv 1) (Xat (by rfl) Xln) (λ_ _=>rfl)) Xad))))) Xad)))
   (Xaj (Xbz (Xec plainAttrs_list PySem.F.slot_list_append PySem.F.type_list_append Xcw (Xd3 (pv 0) rfl) (Xaa (Xcc (Xaa (Xat (by rfl) Xcy) (Xaa (Xbc Xa9 (pv 1) (Xat (by rfl) Xc2) (λ_ _=>rfl)) (Xaa (pv 2) (Xaa (Xbc Xa9 (pv 1) (Xat (by rfl) Xln) (λ_ _=>rfl)) Xad))))) Xad)))))))),
  (Xcg (Xkm (Xb8 (Xau (Xab Xah Xak)))) (Xkr (j:=4) CV_Walk (by rfl) (Xbf (Xdj (Xab Xai (Xab (Xbs Xa8 Xah Xai) (Xab (Xbs Xa8 Xah Xai) (Xab (Xbs Xa8 Xah Xai) Xak))))))) (Xao (Xa2 (Xbf (Xas Xey (Xaq (Xas Xc1 (Xca (OpF.b Xa8) Xae (Xaq Xai)) (Xca (OpF.b Xa8) Xae (Xaq Xai)))) (Xaq Xai))))
   (Xao (Xkr (j:=4) CV_Walk (by rfl) (Xbf (Xdj (Xab Xai (Xab Xah (Xab (Xbs Xa8 Xah Xai) (Xab (Xbs Xa8 Xah Xai) Xak)))))))
   (Xkr (j:=4) CV_Walk (by rfl) (Xbf (Xdj (Xab Xai (Xab (Xbs Xa8 Xah Xai) (Xab Xah (Xab (Xbs Xa8 Xah Xai) Xak)))))))))),?_⟩)
 rintro a ts ds Pr ⟨w,p,rfl,hf,rfl,h⟩
 rw[Xre]
 unfold Wk.ts
 fin2
 refine⟨p,rfl,?_⟩
 have hl:=hf
 unfold Wk.wake at h
 fin2
 split at h
 .rename_i c
  rw[if_pos c,Xm0]
  exact⟨by omega,h⟩
 .rename_i c
  rw[if_neg c,Xm0,Xm0]
  refine⟨by omega,by simp;omega,?_⟩
  rw[append_assoc]
  exact h
theorem Xlt {f:Addr}{fd:FuncData}(Df:MetAt K "Walk" "is_whole" "Walk.is_whole" Xbx f fd)(B:BltV mg)(KV:KitV K)(CV_Walk:ClsV K "Walk" ns_Walk):
  CalM P w K mg base "Walk" "is_whole" 1 ["self"] (spV K 1 Xdo):=by
 refine CalP.of Df Xlq (by walk_at "b") rfl (λc A o s H E hr=>⟨_,_,(Xaj (Xax (Xfv Xrh (Xd3 (pv 0) rfl) Xal (Xbg _)))),
  (Xa1 (Xbf (Xas Xhu (Xhq (j:=0) CV_Walk (by rfl) Xae) (Xaq Xai)))),?_⟩)
 rintro ds Pr ⟨w,rfl,h⟩
 unfold Wk.ts
 fin2
 exact h
theorem Xrt {f:Addr}{fd:FuncData}(Df:MetAt K "Walk" "calm" "Walk.calm" Xdz f fd)(B:BltV mg)(KV:KitV K)(CV_Walk:ClsV K "Walk" ns_Walk)(Xcy:∃t,mg "WAKING_FIRST"=some (.int 1 t))(Xfg:∃t,mg "WAKING"=some (.int 0 t))(Xig:∃t,mg "ASKS"=some (.int 0 t))(Xc2:∃t,mg "START"=some (.int 1 t))(Xif:∃t,mg "END"=some (.int 2 t))(Xeq:Cal P w K mg base "calm_span" 1 ["plane"] (spV K 1 Xh4))(Xer:CalM P w K mg base "Walk" "wake" 2 ["self","part"] (spM K 2 "Walk" ns_Walk Xh5)):
  CalM P w K mg base "Walk" "calm" 3 ["self","part"] (spM K 2 "Walk" ns_Walk Xld):=by
 refine CalM.of Df Xqz (by walk_at "b") rfl (λc A o s H E hr=>⟨_,_,(Xag (Xbz (Xec plainAttrs_list PySem.F.slot_list_append PySem.F.type_list_append Xcw (Xd3 (pv 0) rfl) (Xaa (Xcc (Xaa (Xat (by rfl) Xfg) (Xaa (Xbc Xa9 (pv 1) (Xat (by rfl) Xc2) (λ_ _=>rfl)) (Xaa (Xbc Xa9 (pv 1) (Xat (by rfl) Xif) (λ_ _=>rfl)) (Xaa (Xa0 Xeq (hr.mono (by decide)) (by rfl) (Xaa (Xd3 (pv 0) rfl) Xad)) Xad))))) Xad)))
   (Xaj (Xcb (Xbe Xi1 (Xbc Xa9 (pv 1) (Xat (by rfl) Xig) (λ_ _=>rfl)) (Xat (by rfl) Xcy) (Xbg _)) (Xaj (Xbz (Xic Xer (hr.mono (by decide)) (pv 0) (Xaa (Xx7 plainAttrs_list PySem.F.slot_list_pop PySem.F.type_list_pop Ydc (Xd3 (pv 0) rfl)) Xad)))) Xbb))),
  (Xao (Xkr (j:=3) CV_Walk (by rfl) (Xbf (Xdj (Xab Xai (Xab (Xbs Xa8 Xah Xai) (Xab (Xbs Xa8 Xah Xai) (Xab (Xb8 (Xj7 (Xaf (Xhq (j:=0) CV_Walk (by rfl) Xae) Xam))) Xak)))))))
   (Xcg (Xbd (Xas Xi2 (Xca (OpF.b Xa8) Xae (Xaq Xai)) (Xaq Xai))) (Xvh (j:=4) CV_Walk (by rfl) (by decide +kernel)) Xba)),?_⟩)
 rintro a ts ds Pr ⟨w,p,rfl,hf,rfl,h1,h2,hne,h⟩
 rw[Xre]
 unfold Wk.ts
 fin2
 refine⟨hf.1,w.pl.toNat,by rw[toNat_of_nonneg h1],by omega,?_⟩
 fin2
 rw[Xm0]
 unfold Wk.calm at h
 split at h
 .rename_i c
  rw[if_pos c]
  obtain⟨ah,q,e⟩:∃ah q,w.ah=ah++[q]:=⟨_,_,(List.dropLast_concat_getLast (hne c)).symm⟩
  rw[e]at h ⊢
  rw[dropLast_concat,getLastD_concat]at h
  unfold Xpa
  fin2
  refine⟨ah.map λp=>OV.fz p.d,q.d,by rw[map_append];rfl,?_⟩
  refine⟨{w.walked ⟨0,p.s,p.e,1-2^w.pl.toNat,2^w.pl.toNat-1⟩ with ah:=ah},q,rfl,?_,rfl,h⟩
  have:=hf.2
  rw[e,length_append]at this
  show ah.length<900000
  omega
 .rename_i c
  rw[if_neg c]
  exact h
theorem Xrs {f:Addr}{fd:FuncData}(Df:MetAt K "Walk" "take" "Walk.take" Xdy f fd)(B:BltV mg)(KV:KitV K)(CV_Walk:ClsV K "Walk" ns_Walk)(Xfh:∃t,mg "FIGURE"=some (.int 3 t))(Xig:∃t,mg "ASKS"=some (.int 0 t))(Xkh:∃t,mg "SIGN"=some (.int 2 t))(Xln:∃t,mg "SPAN"=some (.int 3 t))(Ydb:Xu5 K mg "told")(Xdg:CalM P w K mg base "Walk" "walk_awake" 1 ["self","part","span"] (spM K 3 "Walk" ns_Walk Xf5))(Xgh:Cal P w K mg base "figured_span" 1 ["span","plane","figure"] (spV K 3 Xh3))(Xhh:Cal P w K mg base "signed_span" 1 ["plane","below"] (spV K 2 Xi3))(Xer:CalM P w K mg base "Walk" "wake" 2 ["self","part"] (spM K 2 "Walk" ns_Walk Xh5))(Xju:CalM P w K mg base "Walk" "calm" 3 ["self","part"] (spM K 2 "Walk" ns_Walk Xld))(Xes:CalM P w K mg base "Walk" "turn" 1 ["self"] (spM K 1 "Walk" ns_Walk Xh6)):
  CalM P w K mg base "Walk" "take" 4 ["self","told"] (spM K 2 "Walk" ns_Walk Xh7):=by
 refine CalM.of Df Xlf (by walk_at "b") rfl (λc A o s H E hr=>⟨_,_,(Xag (Xa6 (i:=2) Xlf.nd rfl (Or.inl rfl) (Xx7 plainAttrs_list PySem.F.slot_list_pop PySem.F.type_list_pop Ydc (Xd3 (pv 0) rfl)))
   (Xag (Xq9 (pv 0) Xal Yjm)
   (Xag (Xcb (Xbe Xi1 (Xbc Xa9 (pv 2) (Xat (by rfl) Xig) (λ_ _=>rfl)) (Xat (by rfl) Xfh) (Xbg _)) (Xaj (Xbz (Xic Xdg (hr.mono (by decide)) (pv 0) (Xaa (pv 2) (Xaa (Xa0 Xgh (hr.mono (by decide)) (by rfl) (Xaa (Xbc Xa9 (pv 2) (Xat (by rfl) Xln) (λ_ _=>rfl)) (Xaa (Xd3 (pv 0) rfl) (Xaa (pv 1) Xad)))) Xad))))) (Xaj (Xcb (Xbe Xi1 (Xbc Xa9 (pv 2) (Xat (by rfl) Xig) (λ_ _=>rfl)) (Xat (by rfl) Xkh) (Xbg _)) (Xaj (Xbz (Xic Xdg (hr.mono (by decide)) (pv 0) (Xaa (pv 2) (Xaa (Xa0 Xhh (hr.mono (by decide)) (by rfl) (Xaa (Xd3 (pv 0) rfl) (Xaa (pv 1) Xad))) Xad))))) (Xaj (Xcb (Xch (pv 1)) (Xaj (Xbz (Xic Xer (hr.mono (by decide)) (pv 0) (Xaa (pv 2) Xad)))) (Xaj (Xbz (Xic Xju (hr.mono (by decide)) (pv 0) (Xaa (pv 2) Xad)))))))))
   (Xaj (Xcb (Xdk (Ya2 (Xd3 (pv 0) rfl) (λ_=>rfl))) (Xag (Xbz (Xec plainAttrs_list PySem.F.slot_list_append PySem.F.type_list_append Xcw (Xd3 (pv 0) rfl) (Xaa (Xd3 (pv 0) rfl) Xad)))
   (Xaj (Xbz (Xis Xes (hr.mono (by decide)) (pv 0))))) Xbb))))),
  (Xao (Yen (j:=4) CV_Walk (by rfl))
   (Xao (Xxg (j:=1) (g:=λx y=>x+y) CV_Walk (by rfl) (λx y H Q q=>⟨_,_,rfl,rfl,q⟩) (Xaq Xai))
   (Xao (Xcg (Xbd (Xas Xi2 (Xca (OpF.b Xa8) Xae (Xaq Xai)) (Xaq Xai))) (Xg3 CV_Walk (by decide +kernel) (Xab Xah (Xab (Xb8 (Xj7 (Xaf (Xca (OpF.b Xa8) Xae (Xaq Xai)) (Xaf (Xhq (j:=0) CV_Walk (by rfl) Xae) (Xaf Xae Xam))))) Xak))) (Xcg (Xbd (Xas Xi2 (Xca (OpF.b Xa8) Xae (Xaq Xai)) (Xaq Xai))) (Xg3 CV_Walk (by decide +kernel) (Xab Xah (Xab (Xb8 (Xj7 (Xaf (Xhq (j:=0) CV_Walk (by rfl) Xae) (Xaf Xae Xam)))) Xak))) (Xcg (Xkm Xah) (Xg3 CV_Walk (by decide +kernel) (Xab Xah Xak)) (Xg3 CV_Walk (by decide +kernel) (Xab Xah Xak)))))
   (Xcg (Xdi (Yar (Xhq (j:=4) CV_Walk (by rfl) Xae))) (Xao (Xkr (j:=2) CV_Walk (by rfl) (Xbf (Yew (Xhq (j:=1) CV_Walk (by rfl) Xae))))
   (Xg3 CV_Walk (by decide +kernel) Xak)) Xba)))),?_⟩)
 rintro a ts ds Pr ⟨w,ah,p,b,rfl,hf,rfl,e,h1,h2,hne,h⟩
 unfold Wk.ts
 gn_on
 unfold Ye2
 fin2
 refine⟨ah.map λp=>OV.fz p.d,p.d,by rw[e,map_append];rfl,?_⟩
 gp_on
 gn_on
 gp_on
 gn_on
 rw[Xre]
 fin2
 have hah:ah.length<900000:=by
  have:=hf.2.2
  rw[e,length_append]at this
  omega
 have hwk:w.wk.length<900000:=hf.2.1
 have hre:w.re.length<900000:=hf.1
 have ep:((w.pl.toNat:Nat):Int)=w.pl:=toNat_of_nonneg h1
 have hsl:(w.step ah p b).wk.length<=w.wk.length+1/\(w.step ah p b).re=w.re:=by
  unfold Wk.step Wk.calm Wk.wake Wk.walked
  repeat (any_goals split)
  all_goals simp
 have fin:N [some (Sl.own (OV.ob (some a) (Str.ofString "Walk") ns_Walk (w.step ah p b).ts)),some (Sl.own (OV.fz (D.bl b))),some (Sl.own (OV.fz (D.tup [D.int p.a,D.int p.s,D.int p.e,D.tup [D.int p.lo,D.int p.hi]])))]:=by
  gp_on
  generalize w.step ah p b=v at h hsl ⊢
  unfold Wk.ts
  fin2
  unfold Wk.rowEnd at h
  split at h
  .rename_i c
   rw[if_pos (by rw[c];rfl)]
   exact⟨by rw[hsl.2];omega,{v with re:=v.re++[v.us]},rfl,by show v.wk.length<=1000000;omega,rfl,h⟩
  .rename_i c
   rw[if_neg (by simpa using c)]
   exact h
 unfold Wk.step at fin
 split
 .rename_i c
  rw[if_pos c]at fin
  refine⟨p.lo,p.hi,w.pl.toNat,b,by rw[ep],by omega,?_⟩
  unfold Pa.figured at fin
  by_cases hb:b=decide (p.lo > 0)
  .simp only[if_pos hb]at fin ⊢
   exact⟨rfl,{w with us:=w.us+1,ah:=ah},p,_,_,rfl,by show w.wk.length<1000000;omega,rfl,fin⟩
  .simp only[if_neg hb]at fin ⊢
   exact⟨rfl,{w with us:=w.us+1,ah:=ah},p,_,_,rfl,by show w.wk.length<1000000;omega,rfl,fin⟩
 .rename_i c
  rw[if_neg c]at fin
  split
  .rename_i c2
   rw[if_pos c2]at fin
   refine⟨w.pl.toNat,b,by rw[ep],by omega,?_⟩
   unfold Pa.signed at fin
   by_cases hb:b=true
   .simp only[if_pos hb]at fin ⊢
    exact⟨rfl,{w with us:=w.us+1,ah:=ah},p,_,_,rfl,by show w.wk.length<1000000;omega,rfl,fin⟩
   .simp only[if_neg hb]at fin ⊢
    exact⟨rfl,{w with us:=w.us+1,ah:=ah},p,_,_,rfl,by show w.wk.length<1000000;omega,rfl,fin⟩
  .rename_i c2
   rw[if_neg c2]at fin
   split
   .rename_i c3
    rw[if_pos c3]at fin
    exact⟨{w with us:=w.us+1,ah:=ah},p,rfl,hah,rfl,fin⟩
   .rename_i c3
    rw[if_neg c3]at fin
    exact⟨{w with us:=w.us+1,ah:=ah},p,rfl,⟨by show w.wk.length<1000000;omega,hah⟩,rfl,h1,h2,λz=>hne z (by simpa using c3),fin⟩
abbrev Xcl:Stmt:=top 33
theorem Xo7:FnScope ["some"] ["some"] (Xac Xcl):=by walk_at "S"
def Xgv:DSp:=λds P=>∃xs:List Int,ds=[.lst (xs.map .int)]/\xs.length<=1000000/\P (.nl (xs.map λx=>.fz (.int (ibN x))))
theorem Xpm {f:Addr}{fd:FuncData}(Df:DefAt K mg "heights_of" Xcl f fd)(B:BltV mg)(KV:KitV K)(CV_Walk:ClsV K "Walk" ns_Walk):
  Cal P w K mg base "heights_of" 1 ["some"] (spV K 1 Xgv):=by
 refine CalV.of Df Xo7 (by walk_at "b") rfl (λc A o s H E hr=>⟨_,_,(Xaj (Xax (Xda rfl (Xgf (pv 0)) (show BlkScope (Xac Xcl) _ from⟨rfl,by decide +kernel,by decide +kernel,by decide +kernel⟩) (N:=["number"]) (ix:=[none]) (show Xb2 _ _ _ _ from trivial) (λ_ _ _=>(Xa4 (i:=0) (show List.Nodup (["number"]:List Str) by decide +kernel) rfl (Or.inl rfl))) (λ_ _ _=>(Xx7 PySem.F.plainAttrs_int PySem.F.slot_int_bit_length PySem.F.type_int_bit_length Yf3 (Xap Xuy (by rfl) B.abs boot_abs (Xaa (pv 0) Xad))))))),
  (Xa1 (Xb3 (Xg5 Xah) Xa5 (Xbf (Ye0 (Xaq (Xbh Yd0 (Xaf Xae Xam))))))),?_⟩)
 rintro ds Pr ⟨xs,rfl,hx,k⟩
 fin2
 refine Xix.map xs D.int (λx=>.fz (.int (ibN x))) hx (λx _ Q q=>?_) k
 fin2
 rw[Ygj]
 exact q
def Xl4 (xs:List Int)(n:Int)(p:Pa):Bool:=
 if p.a=3 then decide ((xs.getD p.s.toNat 0).natAbs / 2^n.toNat%2=1) else if p.a=2 then decide (xs.getD p.s.toNat 0<0)
 else ((xs.drop p.s.toNat).take (p.e.toNat-p.s.toNat)).any λx=>decide (n<(ibN x:Int))
def Ynb (xs:List Int)(p:Pa):Prop:=0<=p.s/\p.s<p.e/\p.e<=(xs.length:Int)
theorem Ylz (a:Nat):Builtin.bitAnd (a:Int) 1=((a%2:Nat):Int):=by
 unfold Builtin.bitAnd
 rw[decide_eq_true (by omega:0<=(a:Int)),decide_eq_true (by omega:(0:Int)<=1)]
 dsimp only
 rw[toNat_natCast,show (1:Int).toNat=1 from rfl,Nat.and_one_is_mod]
theorem Yaa (a k:Nat):Builtin.bitAnd ((a:Int) / 2^k) 1=((a / 2^k%2:Nat):Int):=by
 rw[<- Ylz]
 congr 1
theorem Ygv {xs:List D}{i j:Int}(h0:0<=i)(h1:i<=j)(h2:j<=(xs.length:Int)):L2.Ydy xs (some i) (some j)=(xs.drop i.toNat).take (j.toNat-i.toNat):=by
 unfold L2.Ydy
 have e1:HT.sIx xs.length 0 (some i)=i.toNat:=by
  have:=HT.sIx_nat xs.length 0 i.toNat
  rw[toNat_of_nonneg h0]at this
  rw[this];omega
 have e2:HT.sIx xs.length xs.length (some j)=j.toNat:=by
  have:=HT.sIx_nat xs.length xs.length j.toNat
  rw[toNat_of_nonneg (by omega)]at this
  rw[this];(clear h0 h1 e1;omega)
 rw[e1,e2]
inductive Tell (xs:List Int):Wk->List Bool->Prop
 |done {w:Wk} (h:w.pl<0):Tell xs w []
 |step {w:Wk} {ah:List Pa} {p:Pa} {bs:List Bool} (h:0<=w.pl) (h5:w.pl<=5000) (hf:w.fits) (e:w.ah=ah++[p]) (hp:Ynb xs p) (h1:p.a=1->Xl4 xs w.pl p=false->ah≠[]) (t:Tell xs ((w.step ah p (Xl4 xs w.pl p)).rowEnd) bs):Tell xs w (Xl4 xs w.pl p::bs)
def Xj3:DSp:=λds P=>∃(w:Wk) (ah:List Pa) (p:Pa),ds=[.obj "Walk" ns_Walk (OV.vals w.ts)]/\w.ah=ah++[p]/\w.fits/\P (.fz p.d)
abbrev Xc9:Stmt:=Xhb (top 29) 3
theorem Xo8:FnScope ["self"] ["self"] (Xac Xc9):=by walk_at "S"
theorem Xpn {f:Addr}{fd:FuncData}(Df:MetAt K "Walk" "asked" "Walk.asked" Xc9 f fd)(B:BltV mg)(KV:KitV K)(CV_Walk:ClsV K "Walk" ns_Walk):
  CalM P w K mg base "Walk" "asked" 1 ["self"] (spV K 1 Xj3):=by
 refine CalP.of Df Xo8 (by walk_at "b") rfl (λc A o s H E hr=>⟨_,_,(Xaj (Xax (Xbc Xbt (Xd3 (pv 0) rfl) (Yfj Xwm Xal) (λ_ _=>rfl)))),
  (Xa1 (Xbf (Yew (Xca (OpF.b Xdh) (Xhq (j:=4) CV_Walk (by rfl) Xae) (Xaq (Xxq (Xaq Xai))))))),?_⟩)
 rintro ds Pr ⟨w,ah,p,rfl,e,hf,h⟩
 unfold Wk.ts
 fin2
 rw[Xya,e,map_append]
 refine⟨p.d,?_,Yiu p,h⟩
 exact Yb7 _ _
def Xql:DSp:=λds P=>∃(p:Pa) (n:Int) (xs:List Int),ds=[p.d,.int n,.lst (xs.map .int),.lst (xs.map λx=>.int (ibN x))]/\Ynb xs p/\xs.length<=1000000/\0<=n/\n<=5000/\P (.fz (.bl (Xl4 xs n p)))
abbrev Xg2:Stmt:=top 35
theorem Xqx:FnScope ["part","plane","some","heights","number"] ["part","plane","some","heights"] (Xac Xg2):=by walk_at "S"
theorem Xyj {f:Addr}{fd:FuncData}(Df:DefAt K mg "answer" Xg2 f fd)(B:BltV mg)(KV:KitV K)(CV_Walk:ClsV K "Walk" ns_Walk)(Xfh:∃t,mg "FIGURE"=some (.int 3 t))(Xkh:∃t,mg "SIGN"=some (.int 2 t))(Xc2:∃t,mg "START"=some (.int 1 t))(Xig:∃t,mg "ASKS"=some (.int 0 t))(Xif:∃t,mg "END"=some (.int 2 t)):
  Cal P w K mg base "answer" 1 ["part","plane","some","heights"] (spV K 4 Xql):=by
 refine CalV.of Df Xqx (by walk_at "b") rfl (λc A o s H E hr=>⟨_,_,(Xag (Xa6 (i:=4) Xqx.nd rfl (Or.inl rfl) (Xbc Xbt (pv 2) (Xbc Xa9 (pv 0) (Xat (by rfl) Xc2) (λ_ _=>rfl)) (λ_ _=>rfl)))
   (Xag (Xcb (Xbe Xi1 (Xbc Xa9 (pv 0) (Xat (by rfl) Xig) (λ_ _=>rfl)) (Xat (by rfl) Xfh) (Xbg _)) (Xaj (Xax (Xfv Xi1 (Xaz Yc7 (Xaz Xyc (Xap Xuy (by rfl) B.abs boot_abs (Xaa (pv 4) Xad)) (pv 1)) Xal) Xal (Xbg _)))) Xbb)
   (Xag (Xcb (Xbe Xi1 (Xbc Xa9 (pv 0) (Xat (by rfl) Xig) (λ_ _=>rfl)) (Xat (by rfl) Xkh) (Xbg _)) (Xaj (Xax (Xfv Xrh (pv 4) Xal (Xbg _)))) Xbb)
   (Xaj (Xax (Xfv Ybe (Xap (Xsd rfl) (by rfl) B.max boot_max (Xaa (Xd9 Xt1 (pv 3) (Xd7 (Xbc Xa9 (pv 0) (Xat (by rfl) Xc2) (λ_ _=>rfl))) (Xd7 (Xbc Xa9 (pv 0) (Xat (by rfl) Xif) (λ_ _=>rfl)))) Xad)) (pv 1) (Xbg _))))))),
  (Xao (Xa2 (Xbf (Xbs Xdh Xah (Xbs Xa8 Xah Xai))))
   (Xao (Xcg (Xbd (Xas Xi2 (Xca (OpF.b Xa8) Xae (Xaq Xai)) (Xaq Xai))) (Xa1 (Xbf (Xas Xi2 (Xaq (Xas Xc1 (Xaq (Xas Xey (Xaq (Xbh Yd0 (Xaf Xae Xam))) Xae)) (Xaq Xai))) (Xaq Xai)))) Xba)
   (Xao (Xcg (Xbd (Xas Xi2 (Xca (OpF.b Xa8) Xae (Xaq Xai)) (Xaq Xai))) (Xa1 (Xbf (Xas Xhu Xae (Xaq Xai)))) Xba)
   (Xa1 (Xbf (Xas Xhu (Xaq (Xbh Xz7 (Xaf (Xaq (Xb8 (Ycu Xah (Xj6 (Xca (OpF.b Xa8) Xae (Xaq Xai))) (Xj6 (Xca (OpF.b Xa8) Xae (Xaq Xai)))))) Xam))) Xae)))))),?_⟩)
 rintro ds Pr ⟨p,n,xs,rfl,⟨hp1,hp2,hp3⟩,hx,hn0,hn,h⟩
 rw[Xre]
 gn_on
 refine⟨_,Xho hp1 (by omega),?_⟩
 gp_on
 fin2
 unfold Xl4 at h
 split
 .rename_i c
  rw[if_pos c]at h
  refine⟨hn0,?_⟩
  rw[Yaa]
  generalize (xs.getD p.s.toNat 0).natAbs / 2^n.toNat%2=t at h ⊢
  rw[decide_eq_decide.mpr (show ((t:Nat):Int)=1↔t=1 by omega)]
  exact h
 .rename_i c
  rw[if_neg c]at h
  split
  .rename_i c2
   rw[if_pos c2]at h
   exact h
  .rename_i c2
   rw[if_neg c2]at h
   refine⟨((xs.drop p.s.toNat).take (p.e.toNat-p.s.toNat)).map λx=>(ibN x:Int),?_,?_,λM hM hA=>?_⟩
   .rw [map_map,Ygv hp1 (by omega) (by simpa using hp3),<- map_drop,<- map_take,map_map,map_map]
    rfl
   .rw [length_map,length_take,length_drop]
    omega
   .have e:(((xs.drop p.s.toNat).take (p.e.toNat-p.s.toNat)).any λx=>decide (n<(ibN x:Int)))=decide (M > n):=by
     rw[Bool.eq_iff_iff,any_eq_true,decide_eq_true_eq]
     constructor
     .rintro ⟨x,hx1,hx2⟩
      have:=hA _ (mem_map.mpr ⟨x,hx1,rfl⟩)
      have:=of_decide_eq_true hx2
      omega
     .intro z
      obtain⟨x,hx1,hx2⟩:=mem_map.mp hM
      exact⟨x,hx1,decide_eq_true (by omega)⟩
    rw[e]at h
    exact h
def Xw5:DSp:=λds P=>∃(xs:List Int) (n:Nat) (bs:List Bool),ds=[.lst (xs.map .int),.int n]/\xs.length<=1000000/\n<=5000/\bs.length<=900000/\Tell xs (Wk.turn ⟨n,0,[],[⟨0,0,xs.length,1-2^n,2^n-1⟩],[]⟩) bs/\P (.fz (.str (Txt.join "" (bs.map Xsh))))
abbrev Xml:Stmt:=top 36
theorem Xmh:FnScope ["some","planes","walk","heights","bits","bit"] ["some","planes"] (Xac Xml):=by walk_at "S"
theorem Yfr {f:Addr}{fd:FuncData}(Df:DefAt K mg "told" Xml f fd)(B:BltV mg)(KV:KitV K)(CV_Walk:ClsV K "Walk" ns_Walk)(Xci:CalK P w K mg base "Walk" 2 ["self","many","planes"] (spM K 3 "Walk" ns_Walk Xe5))(Xd4:Cal P w K mg base "heights_of" 1 ["some"] (spV K 1 Xgv))(Xbl:CalM P w K mg base "Walk" "is_whole" 1 ["self"] (spV K 1 Xdo))(Xp7:Cal P w K mg base "answer" 1 ["part","plane","some","heights"] (spV K 4 Xql))(Xip:CalM P w K mg base "Walk" "asked" 1 ["self"] (spV K 1 Xj3))(Xet:CalM P w K mg base "Walk" "take" 4 ["self","told"] (spM K 2 "Walk" ns_Walk Xh7)):
  Cal P w K mg base "told" 5 ["some","planes"] (spV K 2 Xw5):=by
 refine CalV.of Df Xmh (by walk_at "b") rfl (λc A o s H E hr=>⟨_,_,(Xag (Xa6 (i:=2) Xmh.nd rfl (Or.inl rfl) (Xx5 Xci (hr.mono (by decide)) (by rfl) (Xaa (Xap Xaw (by rfl) B.len boot_len (Xaa (pv 0) Xad)) (Xaa (pv 1) Xad))))
   (Xag (Xa6 (i:=3) Xmh.nd rfl (Or.inl rfl) (Xa0 Xd4 (hr.mono (by decide)) (by rfl) (Xaa (pv 0) Xad)))
   (Xag (Xa6 (i:=4) Xmh.nd rfl (Or.inl rfl) (Xc0 Xad))
   (Xag (Xuc PassesOwn.never (Xdk (Xch (Xis Xbl (hr.mono (by decide)) (pv 2)))) (Xag (Xa6 (i:=5) Xmh.nd rfl (Or.inl rfl) (Xa0 Xp7 (hr.mono (by decide)) (by rfl) (Xaa (Xis Xip (hr.mono (by decide)) (pv 2)) (Xaa (Xd3 (pv 2) rfl) (Xaa (pv 0) (Xaa (pv 3) Xad))))))
   (Xag (Xbz (Xec plainAttrs_list PySem.F.slot_list_append PySem.F.type_list_append Xcw (pv 4) (Xaa (Xph (Xch (pv 5)) Xb0 Xb0) Xad)))
   (Xaj (Xbz (Xic Xet (hr.mono (by decide)) (pv 2) (Xaa (pv 5) Xad)))))))
   (Xaj (Xax (Xec plainAttrs_str slot_str_join type_str_join Xg9 Xb0 (Xaa (pv 4) Xad)))))))),
  (Xao (Xa2 (Xxj CV_Walk (Xab (Xbh Xdb (Xaf Xae Xam)) (Xab Xah Xak))))
   (Xao (Xa2 (Xbf (Xb8 (Xau (Xab Xah Xak)))))
   (Xao (Xa2 (Xee Xcz))
   (Xao (Xt4 (Xdi (Xkm (Xb8 (Xlz CV_Walk (by decide +kernel) Xae Xam)))) (Xao (Xa2 (Xbf (Xb8 (Xj7 (Xaf (Xaq (Xb8 (Xlz CV_Walk (by decide +kernel) Xae Xam))) (Xaf (Xhq (j:=0) CV_Walk (by rfl) Xae) (Xaf Xae (Xaf Xae Xam))))))))
   (Xao (Xxh (Xbf (Yex (Xkm Xah) Xbk Xbk)))
   (Xg3 CV_Walk (by decide +kernel) (Xab Xah Xak)))))
   (Xa1 (Xbf (Xg6 (Xaq Xbk) Xae))))))),?_⟩)
 rintro ds Pr ⟨xs,n,bs,rfl,hx,hn,hb,ht,h⟩
 gn_on
 refine⟨xs.length,n,rfl,rfl,hn,?_⟩
 gp_on
 gn_on
 refine⟨xs,rfl,hx,?_⟩
 gp_on
 gn_on
 gp_on
 gn_on
 rw[map_map]
 refine⟨λm δ=>∃(w:Wk) (rs ds:List Bool) (o:Option Sl),m=rs.length/\Tell xs w rs/\ds++rs=bs/\δ=[some (Sl.own (OV.fz (D.lst (List.map D.int xs)))),some (Sl.own (OV.fz (D.int n))),some (Sl.own (OV.ob none (Str.ofString "Walk") ns_Walk w.ts)),some (Sl.own (OV.fz (D.lst (xs.map λx=>D.int (ibN x))))),some (Sl.own (OV.nl (ds.map λb=>OV.fz (D.str (Xsh b))))),o],⟨_,_,bs,[],none,rfl,ht,rfl,rfl⟩,?_⟩
 rintro m δ ⟨w,rs,ds,o,rfl,hT,hbs,rfl⟩
 fin2
 refine⟨w,rfl,?_⟩
 fin2
 cases hT with
 |done hl=>
  rw[if_neg (by simp[hl])]
  gp_on
  rw[append_nil]at hbs
  subst hbs
  fin2
  refine⟨ds.map Xsh,by rw[map_map,map_map];rfl,?_,h⟩
  have e:∀l:List Bool,((l.map Xsh).map (·.length)).sum=l.length:=by
   intro l
   induction l with
   |nil=>rfl
   |cons b l ih=>
    rw[map_cons,map_cons,sum_cons,ih,length_cons,Xu2]
    omega
  rw[e,length_map]
  show ds.length+ds.length*0<=16777216
  omega
 | @step _ ah p bs' h0 h5 hf e hp h1 t=>
  rw[if_pos (by simp;omega)]
  refine⟨w,ah,p,by rw[OV.vals_eq],e,hf,?_⟩
  fin2
  refine⟨Yiu p,_,rfl,p,w.pl,xs,rfl,hp,hx,h0,h5,?_⟩
  have hl:ds.length<1000000:=by
   have:=congrArg List.length hbs
   rw[length_append]at this
   omega
  fin2
  refine⟨hl,?_⟩
  cases hA:Xl4 xs w.pl p with
  |true=>
   rw[hA]at t h1 hbs
   rw[if_pos rfl]
   refine⟨w,ah,p,true,rfl,hf,rfl,e,h0,h5,h1,?_⟩
   refine⟨bs'.length,by simp,_,bs',ds++[true],some (Sl.own (OV.fz (D.bl true))),rfl,t,by simpa using hbs,?_⟩
   rw[map_append]
   rfl
  |false=>
   rw[hA]at t h1 hbs
   rw[if_neg (by decide)]
   refine⟨w,ah,p,false,rfl,hf,rfl,e,h0,h5,h1,?_⟩
   refine⟨bs'.length,by simp,_,bs',ds++[false],some (Sl.own (OV.fz (D.bl false))),rfl,t,by simpa using hbs,?_⟩
   rw[map_append]
   rfl
theorem Ygi {x:Int}{k:Nat}:2^k<=x.natAbs↔k<ibN x:=by
 unfold ibN
 split
 .rename_i h
  subst h
  have:=two_pow_pos k
  simp
 .rename_i h
  rw[<- Nat.le_log2 (by omega)]
  omega
theorem fit_ints (xs:List Int):(D.lst (xs.map D.int)).fit 4=true:=by
 simp only[D.fit,all_eq_true]
 intro d hd
 obtain⟨x,_,rfl⟩:=mem_map.mp hd
 rfl
def Kn (x:Int)(k:Nat)(lo hi:Int):Prop:=lo<=x/\x<=hi/\hi-lo=2^k-1/\((∃q:Int,0<q/\lo=q*2^k)∨(∃q:Int,0<q/\hi = -(q*2^k)))
theorem Yk1 {P:Prop}[Decidable P]:(true=decide P)↔P:=by rw[eq_comm,decide_eq_true_eq]
theorem Ylv {P:Prop}[Decidable P]:(false=decide P)↔¬ P:=by rw[eq_comm,decide_eq_false_iff_not]
theorem Ybd (k:Nat):(0:Int)<2^k:=Int.pow_pos (by decide)
theorem Xyb (k:Nat):(2:Int)^(k+1)=2*2^k:=by rw[Int.pow_succ,Int.mul_comm]
theorem Kn.le {x:Int}{k:Nat}{lo hi:Int}(h:Kn x k lo hi):2^k<=(x.natAbs:Int):=by
 obtain⟨h1,h2,h3,h4⟩:=h
 have hp:=Ybd k
 rcases h4 with⟨q,hq,rfl⟩ | ⟨q,hq,rfl⟩
 .have:1*2^k<=q*2^k:=Int.mul_le_mul_of_nonneg_right (by omega) (by omega)
  omega
 .have:1*2^k<=q*2^k:=Int.mul_le_mul_of_nonneg_right (by omega) (by omega)
  omega
theorem Ykk {y u r c:Nat}(hc:0<c)(hu:∃q,u=q*c)(hy:y=2*u+r)(hr:r<2*c):y / c%2=1↔c<=r:=by
 obtain⟨q,rfl⟩:=hu
 have e:y / c=2*q+r / c:=by
  rw[hy,show 2*(q*c)+r=r+2*q*c by rw[Nat.mul_assoc];omega,Nat.add_mul_div_right _ _ hc,Nat.add_comm]
 rw[e]
 by_cases hz:c<=r
 .have:r / c=1:=Nat.div_eq_of_lt_le (by (clear hr;omega)) (by omega)
  clear hr;omega
 .have:r / c=0:=Nat.div_eq_of_lt (by (clear hr;omega))
  clear hr;omega
theorem Kn.neg {x:Int}{k:Nat}{lo hi:Int}(h:Kn x k lo hi):Kn (-x) k (-hi) (-lo):=by
 obtain⟨h1,h2,h3,h4⟩:=h
 refine⟨neg_le_neg h2,neg_le_neg h1,by rw[<- h3];omega,?_⟩
 rcases h4 with⟨q,hq,e⟩ | ⟨q,hq,e⟩
 .exact .inr ⟨q,hq,by rw[e]⟩
 .exact .inl ⟨q,hq,by rw[e,neg_neg]⟩
theorem Ydf {x:Int}{k:Nat}{lo hi:Int}:Kn (-x) k (-hi) (-lo)↔Kn x k lo hi:=⟨λh=>by have:=h.neg;rwa[neg_neg,neg_neg,neg_neg]at this,Kn.neg⟩
theorem Yja {x lo hi q:Int}{k:Nat}(h1:lo<=x)(h2:x<=hi)(h3:hi-lo=2^(k+1)-1)(hq:0<q)(e:lo=q*2^(k+1)):
  lo > 0/\(Kn x k (lo+2^k) hi↔x.natAbs / 2^k%2=1)/\(Kn x k lo (hi-2^k)↔¬ x.natAbs / 2^k%2=1):=by
 have hk:=two_pow_pos k
 have hcast:(2:Int)^k=((2^k:Nat):Int):=by simp
 unfold Kn
 rw[Xyb,hcast]at h3 e
 rw[hcast]
 generalize (2^k:Nat)=c at *
 clear hcast
 obtain⟨qn,rfl⟩:∃n:Nat,q=n:=⟨q.toNat,(toNat_of_nonneg (Int.le_of_lt hq)).symm⟩
 have hpos:0<qn*c:=mul_pos (Int.ofNat_lt.mp hq) hk
 have e':lo=((2*(qn*c):Nat):Int):=by rw[e];push_cast;rw[mul_left_comm]
 have f1:lo+(c:Int)=(2*(qn:Int)+1)*c:=by rw[e,Int.add_mul,mul_assoc,mul_left_comm,one_mul]
 have f2:lo=2*(qn:Int)*c:=by rw[e,mul_assoc,mul_left_comm]
 clear e
 generalize hm:qn*c=m at hpos e'
 obtain⟨xn,rfl⟩:∃n:Nat,x=n:=⟨x.toNat,(toNat_of_nonneg (by omega)).symm⟩
 have key:=Ykk (y:=xn) (u:=m) (r:=xn-2*m) hk ⟨qn,hm.symm⟩ (by clear h2 h3 f1 f2;omega) (by clear f1 f2;omega)
 rw[Int.natAbs_natCast,key]
 have q1:(0:Int)<2*(qn:Int)+1:=by clear f1 f2;omega
 have q2:(0:Int)<2*(qn:Int):=by clear f1 f2;omega
 have g1:lo+(c:Int)<=xn↔c<=xn-2*m:=by clear h2 h3 f1 f2;omega
 have g2:(xn:Int)<=hi-c↔¬ c<=xn-2*m:=by clear f1 f2;omega
 exact⟨by rw[f2];exact Int.mul_pos q2 (Int.ofNat_lt.mpr hk),⟨λg=>g1.mp g.1,λg=>⟨g1.mpr g,h2,by omega,.inl ⟨_,q1,f1⟩⟩⟩,⟨λg=>g2.mp g.2.1,λg=>⟨h1,g2.mpr g,by omega,.inl ⟨_,q2,f2⟩⟩⟩⟩
theorem Kn.figured {x:Int}{k:Nat}{p:Pa}{b:Bool}(h:Kn x (k+1) p.lo p.hi):Kn x k (p.figured k b).lo (p.figured k b).hi↔b=decide (x.natAbs / 2^k%2=1):=by
 obtain⟨h1,h2,h3,h4⟩:=h
 unfold Pa.figured
 rcases h4 with⟨q,hq,e⟩ | ⟨q,hq,e⟩
 .obtain ⟨a1,a2,a3⟩:=Yja h1 h2 h3 hq e
  rw[decide_eq_true a1]
  cases b with
  |true=>rw[if_pos rfl,Yk1,<- a2]
  |false=>rw[if_neg (by decide),Ylv,<- a3]
 .obtain ⟨a1,a2,a3⟩:=Yja (x:=-x) (lo:=-p.hi) (hi:=-p.lo) (neg_le_neg h2) (neg_le_neg h1) (by rw[<- h3];omega) hq (by rw[e,neg_neg])
  have hd:decide (p.lo > 0)=false:=decide_eq_false (by omega)
  rw[hd]
  rw[Int.natAbs_neg,show -p.hi+2^k = -(p.hi-2^k) by omega,Ydf]at a2
  rw[Int.natAbs_neg,show -p.lo-2^k = -(p.lo+2^k) by omega,Ydf]at a3
  cases b with
  |true=>rw[if_neg (by decide),Yk1,<- a2]
  |false=>rw[if_pos rfl,Ylv,<- a3]
theorem Kn.signed {x:Int}{k:Nat}{p:Pa}{b:Bool}(h1:2^k<=x.natAbs)(h2:x.natAbs<2^(k+1)):Kn x k (p.signed k b).lo (p.signed k b).hi↔b=decide (x<0):=by
 have hk:=two_pow_pos k
 have hcast:(2:Int)^k=((2^k:Nat):Int):=by simp
 rw[pow_succ]at h2
 unfold Kn Pa.signed
 rw[hcast]
 generalize (2^k:Nat)=c at *
 cases b with
 |true=>
  rw[if_pos rfl,Yk1]
  dsimp only
  constructor
  .rintro ⟨_,g1,_⟩;omega
  .intro g
   exact⟨by omega,by omega,by omega,.inr ⟨1,by omega,by omega⟩⟩
 |false=>
  rw[if_neg (by decide),Ylv]
  dsimp only
  constructor
  .rintro ⟨g1,_⟩;omega
  .intro g
   exact⟨by omega,by omega,by omega,.inl ⟨1,by omega,by omega⟩⟩
def ShK (k:Nat)(lo hi:Int):Prop:=hi-lo=2^k-1/\((∃q:Int,0<q/\lo=q*2^k)∨(∃q:Int,0<q/\hi = -(q*2^k)))
def ShW (k:Nat)(p:Pa):Prop:=0<=p.s/\p.s<p.e/\((p.a=3/\p.e=p.s+1/\ShK k p.lo p.hi)∨(p.a=0/\p.lo=1-2^k/\p.hi=2^k-1))
def ShA (k:Nat)(p:Pa):Prop:=0<=p.s/\p.s<p.e/\((p.a=3/\p.e=p.s+1/\ShK k p.lo p.hi)∨((p.a=0∨p.a=1)/\p.lo=1-2^k/\p.hi=2^k-1)∨(p.a=2/\p.e=p.s+1/\p.lo=1-2^k/\p.hi=2^k-1))
def Low (xs:List Int)(k:Nat)(s e:Int):Prop:=∀i:Nat,s<=i->(i:Int)<e->(xs.getD i 0).natAbs<2^k
def Big (xs:List Int)(k:Nat)(s e:Int):Prop:=∃i:Nat,s<=i/\(i:Int)<e/\2^k<=(xs.getD i 0).natAbs
def CW (xs:List Int)(k:Nat)(p:Pa):Prop:=(p.a=3->p.lo<=xs.getD p.s.toNat 0/\xs.getD p.s.toNat 0<=p.hi)/\(p.a=0->Low xs k p.s p.e)
def CA (xs:List Int)(k:Nat)(p:Pa):Prop:=(p.a=3->p.lo<=xs.getD p.s.toNat 0/\xs.getD p.s.toNat 0<=p.hi)/\(p.a≠3->Low xs (k+1) p.s p.e)/\(p.a=2->Big xs k p.s p.e)
theorem Xm4 {xs:List Int}{k:Nat}{s e:Int}:¬ Low xs k s e↔Big xs k s e:=by
 unfold Low Big
 constructor
 .intro h
  exact Classical.byContradiction λz=>h λi h1 h2=>Nat.lt_of_not_le λy=>z ⟨i,h1,h2,y⟩
 .rintro ⟨i,h1,h2,h3⟩ h
  have:=h i h1 h2
  omega
theorem Low.mono {xs:List Int}{k l:Nat}{s e:Int}(h:Low xs k s e)(hl:k<=l):Low xs l s e:=λi h1 h2=>lt_of_lt_of_le (h i h1 h2) (Nat.pow_le_pow_right (by decide) hl)
theorem Low.split {xs:List Int}{k:Nat}{s m e:Int}(h1:s<=m)(h2:m<=e):Low xs k s e↔Low xs k s m/\Low xs k m e:=by
 constructor
 .intro h
  exact⟨λi a b=>h i a (by omega),λi a b=>h i (by omega) b⟩
 .rintro ⟨a,b⟩ i c d
  by_cases z:(i:Int)<m
  .exact a i c z
  .exact b i (by omega) d
theorem Big.split {xs:List Int}{k:Nat}{s m e:Int}(h1:s<=m)(h2:m<=e):Big xs k s e↔Big xs k s m∨Big xs k m e:=by
 rw[<- Xm4,Low.split h1 h2,<- Xm4,<- Xm4]
 exact⟨λz=>(Classical.em _).elim (λa=>.inr λb=>z ⟨a,b⟩) .inl,λz ⟨a,b⟩=>z.elim (λc=>c a) λc=>c b⟩
theorem Yg4 {xs:List Int}{k:Nat}{p:Pa}(h3:p.a≠3)(h2:p.a≠2)(h0:0<=p.s)(h1:p.s<p.e)(he:p.e<=(xs.length:Int)):Xl4 xs (k:Int) p=true↔Big xs k p.s p.e:=by
 unfold Xl4 Big
 rw[if_neg h3,if_neg h2,any_eq_true]
 constructor
 .rintro ⟨x,hx,hk⟩
  obtain⟨i,hi⟩:=List.mem_iff_getElem?.mp hx
  have hil:=(List.getElem?_eq_some_iff.mp hi).1
  rw[length_take,length_drop]at hil
  rw[List.getElem?_take_of_lt (by omega),getElem?_drop]at hi
  refine⟨p.s.toNat+i,by omega,by omega,?_⟩
  rw[getD_eq_getElem?_getD,hi]
  show 2^k<=x.natAbs
  exact Ygi.mpr (by have:=of_decide_eq_true hk;omega)
 .rintro ⟨i,a,b,c⟩
  refine⟨xs.getD i 0,List.mem_iff_getElem?.mpr ⟨i-p.s.toNat,?_⟩,decide_eq_true (by have:=Ygi.mp c;omega)⟩
  rw[List.getElem?_take_of_lt (by (clear c;omega)),getElem?_drop,show p.s.toNat+(i-p.s.toNat)=i by (clear h0 he c;omega),getD_eq_getElem?_getD,getElem?_eq_getElem (by omega)]
  rfl
theorem Xou {x:Int}{k:Nat}{lo hi:Int}:Kn x k lo hi↔ShK k lo hi/\lo<=x/\x<=hi:=by
 unfold Kn ShK
 constructor
 .rintro ⟨a,b,c,d⟩;exact⟨⟨c,d⟩,a,b⟩
 .rintro ⟨⟨c,d⟩,a,b⟩;exact⟨a,b,c,d⟩
theorem ShK.figured {k:Nat}{p:Pa}{b:Bool}(h:ShK (k+1) p.lo p.hi):ShK k (p.figured k b).lo (p.figured k b).hi/\p.lo<=(p.figured k b).lo/\(p.figured k b).hi<=p.hi:=by
 obtain⟨h3,h4⟩:=h
 rw[Xyb]at h3 h4
 have hk:=Ybd k
 unfold ShK Pa.figured
 generalize (2:Int)^k=c at *
 split
 .rename_i hb
  dsimp only
  refine⟨⟨by omega,?_⟩,by omega,by omega⟩
  rcases h4 with⟨q,hq,e⟩ | ⟨q,hq,e⟩
  .exact .inl ⟨2*q+1,by omega,by rw[e,Int.add_mul,mul_left_comm,mul_assoc];omega⟩
  .exact .inr ⟨2*q,by omega,by rw[e,mul_left_comm,mul_assoc]⟩
 .rename_i hb
  dsimp only
  refine⟨⟨by omega,?_⟩,by omega,by omega⟩
  rcases h4 with⟨q,hq,e⟩ | ⟨q,hq,e⟩
  .exact .inl ⟨2*q,by omega,by rw[e,mul_left_comm,mul_assoc]⟩
  .exact .inr ⟨2*q+1,by omega,by rw[e,Int.add_mul,mul_left_comm,mul_assoc];omega⟩
theorem ShK.signed {k:Nat}{p:Pa}{b:Bool}:ShK k (p.signed k b).lo (p.signed k b).hi:=by
 unfold ShK Pa.signed
 have hk:=Ybd k
 generalize (2:Int)^k=c at *
 split
 .exact ⟨by dsimp only;omega,.inr ⟨1,by omega,by dsimp only;omega⟩⟩
 .exact ⟨by dsimp only;omega,.inl ⟨1,by omega,by dsimp only;omega⟩⟩
theorem Ygr {xs:List Int}{k:Nat}{p:Pa}{b:Bool}(h3:p.a=3)(hs:ShK (k+1) p.lo p.hi):CW xs k (p.figured k b)↔CA xs k p/\b=Xl4 xs (k:Int) p:=by
 have ha:Xl4 xs (k:Int) p=decide ((xs.getD p.s.toNat 0).natAbs / 2^k%2=1):=by
  unfold Xl4
  rw[if_pos h3]
  rfl
 have fa:(p.figured k b).a=3/\(p.figured k b).s=p.s/\(p.figured k b).e=p.e:=by unfold Pa.figured;split<;>exact⟨rfl,rfl,rfl⟩
 obtain⟨g1,g2,g3⟩:=hs.figured (p:=p) (b:=b)
 rw[ha]
 unfold CW CA
 rw[fa.1,fa.2.1,fa.2.2]
 generalize xs.getD p.s.toNat 0=x
 constructor
 .rintro ⟨h,_⟩
  obtain⟨a1,a2⟩:=h rfl
  have kn:Kn x (k+1) p.lo p.hi:=Xou.mpr ⟨hs,by omega,by omega⟩
  exact⟨⟨λ_=>⟨by omega,by omega⟩,λz=>absurd h3 z,λz=>by rw[h3]at z;cases z⟩,kn.figured.mp (Xou.mpr ⟨g1,a1,a2⟩)⟩
 .rintro ⟨⟨h,_,_⟩,hb⟩
  have kn:Kn x (k+1) p.lo p.hi:=Xou.mpr ⟨hs,h h3⟩
  exact⟨λ_=>(Xou.mp (kn.figured.mpr hb)).2,λz=>by cases z⟩
theorem Xye {xs:List Int}{k:Nat}{s:Int}(h:0<=s):Low xs k s (s+1)↔(xs.getD s.toNat 0).natAbs<2^k:=by
 unfold Low
 constructor
 .intro z;exact z s.toNat (by omega) (by omega)
 .intro z i a b
  rw[show i=s.toNat by (clear z;omega)];exact z
theorem Yfq {xs:List Int}{k:Nat}{s:Int}(h:0<=s):Big xs k s (s+1)↔2^k<=(xs.getD s.toNat 0).natAbs:=by
 rw[<- Xm4,Xye h]
 omega
theorem Yeg {xs:List Int}{k:Nat}{p:Pa}{b:Bool}(h2:p.a=2)(h0:0<=p.s)(he:p.e=p.s+1):CW xs k (p.signed k b)↔CA xs k p/\b=Xl4 xs (k:Int) p:=by
 have ha:Xl4 xs (k:Int) p=decide (xs.getD p.s.toNat 0<0):=by
  unfold Xl4
  rw[if_neg (by rw[h2];decide),if_pos h2]
 have fa:(p.signed k b).a=3/\(p.signed k b).s=p.s/\(p.signed k b).e=p.e:=by unfold Pa.signed;split<;>exact⟨rfl,rfl,rfl⟩
 rw[ha]
 unfold CW CA
 rw[fa.1,fa.2.1,fa.2.2,he]
 simp only[Xye h0,Yfq h0]
 generalize xs.getD p.s.toNat 0=x
 have hp:=two_pow_pos k
 constructor
 .rintro ⟨h,_⟩
  have kn:Kn x k (p.signed k b).lo (p.signed k b).hi:=Xou.mpr ⟨ShK.signed,h trivial⟩
  have l1:2^k<=x.natAbs:=by
   have:=kn.le
   exact_mod_cast this
  have l2:x.natAbs<2^(k+1):=by
   obtain⟨a1,a2⟩:=h trivial
   have hc:(2:Int)^k=((2^k:Nat):Int):=by simp
   rw[pow_succ]
   unfold Pa.signed at a1 a2
   rw[hc]at a1 a2
   generalize (2^k:Nat)=c at *
   split at a1
   .rename_i z
    rw[if_pos z]at a2
    dsimp only at a1 a2
    clear h2 h0 he fa;omega
   .rename_i z
    rw[if_neg z]at a2
    dsimp only at a1 a2
    clear h2 h0 he fa;omega
  exact⟨⟨(λz=>by rw[h2]at z;cases z),λ_=>l2,λ_=>l1⟩,(Kn.signed l1 l2).mp kn⟩
 .rintro ⟨⟨_,l2,l1⟩,hb⟩
  exact⟨λ_=>(Xou.mp ((Kn.signed (p:=p) (l1 h2) (l2 (by rw[h2];decide))).mpr hb)).2,λz=>by cases z⟩
theorem Yk0 {b:Bool}:(true=b)↔b=true:=eq_comm
theorem Ylu {b:Bool}:(false=b)↔¬ b=true:=by cases b<;>simp
def Xwf (xs:List Int)(k:Nat)(ah:List Pa):Prop:=∀r q p,ah=r++[q,p]->p.a=1->Big xs k p.s q.e
def CAs (xs:List Int)(k:Nat)(ah:List Pa):Prop:=(∀p∈ah,CA xs k p)/\Xwf xs k ah
theorem Xmz {xs:List Int}{k:Nat}{ah:List Pa}{p:Pa}(h:p.a≠1):Xwf xs k (ah++[p]):=λr q p' e h'=>by
 have:ah++[p]=(r++[q])++[p']:=by rw[e];simp
 obtain⟨_,e2⟩:=append_inj' this rfl
 rw[List.cons.inj e2 |>.1]at h
 exact absurd h' h
theorem Xkc {xs:List Int}{k:Nat}{ah:List Pa}(h:∀z∈ah,z.a≠1):Xwf xs k ah:=λr q p e h'=>absurd h' (h p (by rw[e];simp))
theorem Xpi {xs:List Int}{k:Nat}{ah:List Pa}{q p:Pa}(h:p.a=1):Xwf xs k (ah++[q,p])↔Big xs k p.s q.e:=by
 constructor
 .intro z;exact z ah q p rfl h
 .intro z r q' p' e _
  obtain⟨_,e2⟩:=append_inj' e rfl
  obtain⟨a,b⟩:=List.cons.inj e2
  obtain⟨c,_⟩:=List.cons.inj b
  rw[<- a,<- c];exact z
theorem Xts {xs:List Int}{k:Nat}{w:Wk}{q:Pa}(h0:0<=q.s)(h1:q.s<q.e)(hn:∀z∈w.ah,z.a≠1):
  CAs xs k (w.wake q).ah↔(∀z∈w.ah,CA xs k z)/\Low xs (k+1) q.s q.e/\Big xs k q.s q.e:=by
 unfold Wk.wake CAs
 split
 .rename_i c
  dsimp only
  have hp:Xwf xs k (w.ah++[⟨2,q.s,q.e,q.lo,q.hi⟩]):=Xmz (by show ¬ (2:Int)=1;decide)
  have hc:CA xs k ⟨2,q.s,q.e,q.lo,q.hi⟩↔Low xs (k+1) q.s q.e/\Big xs k q.s q.e:=by
   unfold CA
   dsimp only
   exact⟨λz=>⟨z.2.1 (by decide),z.2.2 rfl⟩,λz=>⟨λy=>absurd y (by decide),λ_=>z.1,λ_=>z.2⟩⟩
  rw[forall_mem_append,forall_mem_singleton,hc]
  exact⟨λz=>z.1,λz=>⟨z,hp⟩⟩
 .rename_i c
  dsimp only
  have hm1:q.s<(q.s+q.e) / 2:=by omega
  have hm2:(q.s+q.e) / 2<q.e:=by omega
  generalize (q.s+q.e) / 2=m at hm1 hm2
  have hc:∀(a s e:Int),a≠3->a≠2->(CA xs k ⟨a,s,e,q.lo,q.hi⟩↔Low xs (k+1) s e):=by
   intro a s e n3 n2
   unfold CA
   dsimp only
   exact⟨λz=>z.2.1 n3,λz=>⟨λy=>absurd y n3,λ_=>z,λy=>absurd y n2⟩⟩
  have hp:=Xpi (xs:=xs) (k:=k) (ah:=w.ah) (q:=⟨0,m,q.e,q.lo,q.hi⟩) (p:=⟨1,q.s,m,q.lo,q.hi⟩) rfl
  rw[hp,forall_mem_append,forall_mem_cons,forall_mem_singleton,hc _ _ _ (by decide) (by decide),hc _ _ _ (by decide) (by decide)]
  have hs:=Low.split (xs:=xs) (k:=k+1) (s:=q.s) (m:=m) (e:=q.e) (by omega) (by omega)
  dsimp only
  exact⟨λ⟨⟨a,b,c⟩,d⟩=>⟨a,hs.mpr ⟨c,b⟩,d⟩,λ⟨a,cb,d⟩=>⟨⟨a,(hs.mp cb).2,(hs.mp cb).1⟩,d⟩⟩
theorem Xwk (w:Wk)(q:Pa):(w.wake q).wk=w.wk/\(w.wake q).pl=w.pl/\(w.wake q).us=w.us/\(w.wake q).re=w.re:=by
 unfold Wk.wake
 split<;>exact⟨rfl,rfl,rfl,rfl⟩
structure Sib (ah:List Pa) (p:Pa):Prop where
 no:∀z∈ah,z.a≠1
 sib:p.a=1->∃r q,ah=r++[q]/\q.a=0/\q.s=p.e/\q.s<q.e/\0<=q.s
def Yd2 (xs:List Int)(k:Nat)(w:Wk):Prop:=(∀p∈w.wk,CW xs k p)/\CAs xs k w.ah
theorem Xtz {xs:List Int}{k:Nat}{w:Wk}{ah:List Pa}{p:Pa}{b:Bool}(hk:w.pl=k)(e:w.ah=ah++[p])(hs:ShA (k+1) p)(hb:Sib ah p)(he:p.e<=(xs.length:Int)):
  Yd2 xs k (w.step ah p b)↔Yd2 xs k w/\b=Xl4 xs (k:Int) p:=by
 obtain⟨h0,h1,h2⟩:=hs
 have ek:w.pl.toNat=k:=by omega
 have hno:=hb.no
 have hpn:Xwf xs k ah:=Xkc hno
 unfold Wk.step Yd2
 rw[e]
 by_cases c3:p.a=3
 .rw [if_pos c3,ek]
  dsimp only
  have hsh:ShK (k+1) p.lo p.hi:=by
   rcases h2 with z |z |z
   .exact z.2.2
   .rcases z.1 with y |y<;>rw[c3]at y<;>cases y
   .rw [c3]at z;cases z.1
  have hp:Xwf xs k (ah++[p]):=Xmz (by rw[c3];decide)
  unfold CAs
  rw[forall_mem_append,forall_mem_singleton,Ygr c3 hsh,forall_mem_append,forall_mem_singleton]
  exact⟨λ⟨⟨a,b,c⟩,d,_⟩=>⟨⟨a,⟨d,b⟩,hp⟩,c⟩,λ⟨⟨a,⟨d,b⟩,_⟩,c⟩=>⟨⟨a,b,c⟩,d,hpn⟩⟩
 .rw [if_neg c3]
  by_cases c2:p.a=2
  .rw [if_pos c2,ek]
   dsimp only
   have hsh:p.e=p.s+1:=by
    rcases h2 with z |z |z
    .rw [c2]at z;cases z.1
    .rcases z.1 with y |y<;>rw[c2]at y<;>cases y
    .exact z.2.1
   have hp:Xwf xs k (ah++[p]):=Xmz (by rw[c2];decide)
   unfold CAs
   rw[forall_mem_append,forall_mem_singleton,Yeg c2 h0 hsh,forall_mem_append,forall_mem_singleton]
   exact⟨λ⟨⟨a,b,c⟩,d,_⟩=>⟨⟨a,⟨d,b⟩,hp⟩,c⟩,λ⟨⟨a,⟨d,b⟩,_⟩,c⟩=>⟨⟨a,b,c⟩,d,hpn⟩⟩
  .rw [if_neg c2]
   have hans:=Yg4 (xs:=xs) (k:=k) c3 c2 h0 h1 he
   have hca:CA xs k p↔Low xs (k+1) p.s p.e:=by
    unfold CA
    exact⟨λz=>z.2.1 c3,λz=>⟨λy=>absurd y c3,λ_=>z,λy=>absurd y c2⟩⟩
   cases b with
   |true=>
    rw[if_pos rfl,(Xwk _ _).1,Xts h0 h1 hno,Yk0,hans]
    unfold CAs
    rw[forall_mem_append,forall_mem_singleton,hca]
    constructor
    .rintro ⟨a,d,l,g⟩
     refine⟨⟨a,⟨d,l⟩,?_⟩,g⟩
     by_cases c1:p.a=1
     .obtain ⟨r,q,rfl,_,q2,q3,_⟩:=hb.sib c1
      rw[append_assoc]
      refine (Xpi c1).mpr ?_
      obtain⟨i,i1,i2,i3⟩:=g
      exact⟨i,i1,by (clear hk he ek i3;omega),i3⟩
     .exact Xmz c1
    .rintro ⟨⟨a,⟨d,l⟩,_⟩,g⟩
     exact⟨a,d,l,g⟩
   |false=>
    rw[if_neg (by decide),Ylu,hans]
    have hcw:∀lo hi:Int,CW xs k ⟨0,p.s,p.e,lo,hi⟩↔Low xs k p.s p.e:=by
     intro lo hi
     unfold CW
     dsimp only
     exact⟨λz=>z.2 rfl,λz=>⟨λy=>absurd y (by decide),λ_=>z⟩⟩
    have hlb:Low xs k p.s p.e↔Low xs (k+1) p.s p.e/\¬ Big xs k p.s p.e:=by
     rw[<- Xm4,Classical.not_not]
     exact⟨λz=>⟨z.mono (by omega),z⟩,λz=>z.2⟩
    unfold Wk.calm
    by_cases c1:p.a=1
    .rw [if_pos c1]
     obtain⟨r,q,rfl,qa,q2,q3,q0⟩:=hb.sib c1
     have hca':CA xs k q↔Low xs (k+1) q.s q.e:=by
      unfold CA
      exact⟨λz=>z.2.1 (by rw[qa];decide),λz=>⟨(λy=>by rw[qa]at y;cases y),λ_=>z,(λy=>by rw[qa]at y;cases y)⟩⟩
     have hpr:Xwf xs k (r++[q]++[p])↔Big xs k p.s q.e:=by rw[append_assoc];exact Xpi c1
     have hbs:=Big.split (xs:=xs) (k:=k) (s:=p.s) (m:=p.e) (e:=q.e) (by (clear hk he ek;omega)) (by (clear hk he ek;omega))
     rw[(Xwk _ _).1,Xts (by rw[getLastD_concat];exact q0) (by rw[getLastD_concat];exact q3) (by
      dsimp only
      rw[dropLast_concat]
      exact λz hz=>hno z (by simp[hz]))]
     unfold Wk.walked CAs
     dsimp only
     rw[dropLast_concat,getLastD_concat,forall_mem_append,forall_mem_singleton,hcw,hlb,hpr,hbs,forall_mem_append,forall_mem_singleton,forall_mem_append,forall_mem_singleton,hca,hca',<- q2]
     constructor
     .rintro ⟨⟨a,l,n⟩,d,lq,bq⟩
      exact⟨⟨a,⟨⟨d,lq⟩,l⟩,.inr bq⟩,n⟩
     .rintro ⟨⟨a,⟨⟨d,lq⟩,l⟩,pb⟩,n⟩
      exact⟨⟨a,l,n⟩,d,lq,pb.elim (λz=>absurd z n) id⟩
    .rw [if_neg c1]
     unfold Wk.walked CAs
     dsimp only
     have hp:Xwf xs k (ah++[p]):=Xmz c1
     rw[forall_mem_append,forall_mem_singleton,hcw,hlb,forall_mem_append,forall_mem_singleton,hca]
     exact⟨λ⟨⟨a,l,n⟩,d,_⟩=>⟨⟨a,⟨d,l⟩,hp⟩,n⟩,λ⟨⟨a,⟨d,l⟩,_⟩,n⟩=>⟨⟨a,l,n⟩,d,hpn⟩⟩
def Xhp (xs:List Int)(w:Wk):Prop:=Yd2 xs w.pl.toNat w
theorem Xtv {xs:List Int}{w:Wk}(h0:0<=w.pl)(ha:w.ah=[])(hk:∀p∈w.wk,p.a=0∨p.a=3):Xhp xs w.turn↔Xhp xs w:=by
 unfold Xhp Wk.turn
 split
 .rename_i c
  dsimp only
  obtain⟨k,hk1⟩:∃k:Nat,w.pl=k+1:=⟨(w.pl-1).toNat,by omega⟩
  rw[hk1,show ((k:Int)+1-1).toNat=k by omega,show ((k:Int)+1).toNat=k+1 by omega]
  unfold Yd2 CAs
  rw[ha]
  have hp:Xwf xs k w.wk.reverse:=Xkc λz hz=>by
   rcases hk z (by simpa using hz) with y |y<;>rw[y]<;>decide
  have hp2:Xwf xs (k+1) ([]:List Pa):=Xkc λz hz=>by cases hz
  have hc:∀p∈w.wk,(CA xs k p↔CW xs (k+1) p):=by
   intro p hp
   unfold CA CW
   rcases hk p hp with y |y
   .rw [y]
    exact⟨λz=>⟨z.1,λ_=>z.2.1 (by decide)⟩,λz=>⟨z.1,λ_=>z.2 rfl,λy=>absurd y (by decide)⟩⟩
   .rw [y]
    exact⟨λz=>⟨z.1,λy=>absurd y (by decide)⟩,λz=>⟨z.1,λy=>absurd rfl y,λy=>absurd y (by decide)⟩⟩
  constructor
  .rintro ⟨_,a,_⟩
   exact⟨λp hp=>(hc p hp).mp (a p (by simpa using hp)),(λp hp=>by cases hp),hp2⟩
  .rintro ⟨a,_,_⟩
   exact⟨(λp hp=>by cases hp),λp hq=>(hc p (by simpa using hq)).mpr (a p (by simpa using hq)),hp⟩
 .rename_i c
  dsimp only
  have e:w.pl=0:=by omega
  rw[e]
  exact Iff.rfl
theorem Xop {xs:List Int}{w:Wk}(h0:0<=w.pl)(hk:∀p∈w.wk,p.a=0∨p.a=3):Xhp xs w.rowEnd↔Xhp xs w:=by
 unfold Wk.rowEnd
 split
 .rename_i c
  exact Xtv (w:={w with re:=w.re++[w.us]}) h0 c hk
 .exact Iff.rfl
def Xe3:Int->List Pa->Int->Prop
 |a,[],b=>a=b
 |a,p::ps,b=>p.s=a/\p.s<p.e/\Xe3 p.e ps b
theorem Xnf {a b:Int}:∀{ps qs:List Pa},Xe3 a (ps++qs) b↔∃c,Xe3 a ps c/\Xe3 c qs b
 | [],qs=>by
  constructor
  .intro h;exact⟨a,rfl,h⟩
  .rintro ⟨c,h1,h2⟩;cases (show a=c from h1);exact h2
 |p::ps,qs=>by
  show (p.s=a/\p.s<p.e/\Xe3 p.e (ps++qs) b)↔∃c,(p.s=a/\p.s<p.e/\Xe3 p.e ps c)/\Xe3 c qs b
  rw[Xnf]
  constructor
  .rintro ⟨h1,h2,c,h3,h4⟩;exact⟨c,⟨h1,h2,h3⟩,h4⟩
  .rintro ⟨c,⟨h1,h2,h3⟩,h4⟩;exact⟨h1,h2,c,h3,h4⟩
theorem Xp1:∀{ps:List Pa} {a b:Int},Xe3 a ps b->a+ps.length<=b
 | [],a,b,h=>by cases (show a=b from h);simp
 |p::ps,a,b,⟨h1,h2,h3⟩=>by
  have:=Xp1 h3
  simp only[length_cons]
  omega
theorem Xkj:∀{ps:List Pa} {a b:Int} {p:Pa},Xe3 a ps b->p∈ps->a<=p.s/\p.s<p.e/\p.e<=b
 |q :: ps,a,b,p,⟨h1,h2,h3⟩,hp=>by
  rcases mem_cons.mp hp with rfl |hp
  .have:=Xp1 h3
   exact⟨by omega,h2,by omega⟩
  .have:=Xkj h3 hp
   exact⟨by omega,this.2.1,this.2.2⟩
theorem Xk1 {a b:Int}{xs ys:List Pa}{p p':Pa}(h:Xe3 a (xs++p::ys) b)(hs:p'.s=p.s)(he:p'.e=p.e):Xe3 a (xs++p'::ys) b:=by
 rw[Xnf]at h ⊢
 obtain⟨c,h1,h2,h3,h4⟩:=h
 exact⟨c,h1,by rw[hs];exact h2,by rw[hs,he];exact h3,by rw[he];exact h4⟩
theorem Xtm {a b:Int}{xs ys:List Pa}{p p1 p2:Pa}(h:Xe3 a (xs++p::ys) b)(h1:p1.s=p.s)(h2:p1.e=p2.s)(h3:p2.e=p.e)(h4:p1.s<p1.e)(h5:p2.s<p2.e):Xe3 a (xs++p1::p2::ys) b:=by
 rw[Xnf]at h ⊢
 obtain⟨c,g1,g2,g3,g4⟩:=h
 exact⟨c,g1,by rw[h1];exact g2,h4,h2.symm,h5,by rw[h3];exact g4⟩
structure Sh0 (m:Int) (k:Nat) (w:Wk):Prop where
 ch:Xe3 0 (w.wk++w.ah.reverse) m
 wk:∀p∈w.wk,ShW k p
 ah:∀p∈w.ah,ShA (k+1) p
 sib:∀ah p,w.ah=ah++[p]->Sib ah p
theorem Yhy {ah:List Pa}{p:Pa}(hn:∀z∈ah,z.a≠1)(hp:p.a≠1):∀ah' p',ah++[p]=ah'++[p']->Sib ah' p':=λah' p' e=>by
 obtain⟨rfl,e2⟩:=append_inj' e rfl
 cases e2
 exact⟨hn,λz=>absurd z hp⟩
theorem Xxa {ah:List Pa}(hn:∀z∈ah,z.a≠1):∀ah' p',ah=ah'++[p']->Sib ah' p':=λah' p' e=>
 ⟨λz hz=>hn z (by rw[e];simp[hz]),λz=>absurd z (hn p' (by rw[e];simp))⟩
theorem Xoa {m:Int}{k:Nat}{w:Wk}{q:Pa}(h0:0<=q.s)(h1:q.s<q.e)(hq:q.lo=1-2^(k+1)/\q.hi=2^(k+1)-1)(hc:Xe3 0 (w.wk++q::w.ah.reverse) m)(hw:∀p∈w.wk,ShW k p)(ha:∀p∈w.ah,ShA (k+1) p)(hn:∀z∈w.ah,z.a≠1):Sh0 m k (w.wake q):=by
 unfold Wk.wake
 split
 .rename_i c
  refine⟨?_,hw,?_,?_⟩
  .show Xe3 0 (w.wk++(w.ah++[_]).reverse) m
   rw[reverse_append]
   exact Xk1 hc rfl rfl
  .intro p hp
   rcases mem_append.mp hp with z |z
   .exact ha p z
   .rw [mem_singleton.mp z]
    exact⟨h0,h1,.inr (.inr ⟨rfl,by show q.e=q.s+1;omega,hq.1,hq.2⟩)⟩
  .exact Yhy hn (by show ¬ (2:Int)=1;decide)
 .rename_i c
  have hm1:q.s<(q.s+q.e) / 2:=by omega
  have hm2:(q.s+q.e) / 2<q.e:=by omega
  generalize (q.s+q.e) / 2=mid at hm1 hm2
  refine⟨?_,hw,?_,?_⟩
  .show Xe3 0 (w.wk++(w.ah++[_,_]).reverse) m
   rw[reverse_append]
   exact Xtm hc rfl rfl rfl hm1 hm2
  .intro p hp
   rcases mem_append.mp hp with z |z
   .exact ha p z
   .rcases mem_cons.mp z with z |z
    .rw [z];exact⟨by show 0<=mid;omega,hm2,.inr (.inl ⟨.inl rfl,hq.1,hq.2⟩)⟩
    .rw [mem_singleton.mp z];exact⟨h0,hm1,.inr (.inl ⟨.inr rfl,hq.1,hq.2⟩)⟩
  .intro ah' p' e
   have e':(w.ah++[⟨0,mid,q.e,q.lo,q.hi⟩])++[⟨1,q.s,mid,q.lo,q.hi⟩]=ah'++[p']:=by rw[append_assoc];exact e
   obtain⟨rfl,e2⟩:=append_inj' e' rfl
   cases e2
   refine⟨λz hz=>?_,λ_=>⟨w.ah,_,rfl,rfl,rfl,hm2,by show 0<=mid;omega⟩⟩
   rcases mem_append.mp hz with y |y
   .exact hn z y
   .rw [mem_singleton.mp y];show ¬ (0:Int)=1;decide
theorem Xod {m:Int}{k:Nat}{w:Wk}{ah:List Pa}{p:Pa}{b:Bool}(S:Sh0 m k w)(hk:w.pl=k)(e:w.ah=ah++[p]):Sh0 m k (w.step ah p b):=by
 have ek:w.pl.toNat=k:=by omega
 have hb:=S.sib ah p e
 have hA:∀z∈ah,ShA (k+1) z:=λz hz=>S.ah z (by rw[e];simp[hz])
 obtain⟨h0,h1,h2⟩:=S.ah p (by rw[e];simp)
 have hc:=S.ch
 rw[e,reverse_append]at hc
 have hc:Xe3 0 (w.wk++p::ah.reverse) m:=hc
 have put:∀p':Pa,p'.s=p.s->p'.e=p.e->ShW k p'->Sh0 m k {w with us:=w.us+1,ah:=ah,wk:=w.wk++[p']}:=λp' hs he hw=>by
  refine⟨?_,λz hz=>?_,hA,Xxa hb.no⟩
  .show Xe3 0 (w.wk++[p']++ah.reverse) m
   rw[append_assoc]
   exact Xk1 hc hs he
  .rcases mem_append.mp hz with y |y
   .exact S.wk z y
   .rw [mem_singleton.mp y];exact hw
 unfold Wk.step
 by_cases c3:p.a=3
 .rw [if_pos c3,ek]
  have hsh:p.e=p.s+1/\ShK (k+1) p.lo p.hi:=by
   rcases h2 with z |z |z
   .exact z.2
   .rcases z.1 with y |y<;>rw[c3]at y<;>cases y
   .rw [c3]at z;cases z.1
  have fa:(p.figured k b).a=3/\(p.figured k b).s=p.s/\(p.figured k b).e=p.e:=by unfold Pa.figured;split<;>exact⟨rfl,rfl,rfl⟩
  exact put _ fa.2.1 fa.2.2 ⟨by rw[fa.2.1];exact h0,by rw[fa.2.1,fa.2.2];exact h1,.inl ⟨fa.1,by rw[fa.2.1,fa.2.2];exact hsh.1,(hsh.2.figured).1⟩⟩
 .rw [if_neg c3]
  by_cases c2:p.a=2
  .rw [if_pos c2,ek]
   have hsh:p.e=p.s+1:=by
    rcases h2 with z |z |z
    .rw [c2]at z;cases z.1
    .rcases z.1 with y |y<;>rw[c2]at y<;>cases y
    .exact z.2.1
   have fa:(p.signed k b).a=3/\(p.signed k b).s=p.s/\(p.signed k b).e=p.e:=by unfold Pa.signed;split<;>exact⟨rfl,rfl,rfl⟩
   exact put _ fa.2.1 fa.2.2 ⟨by rw[fa.2.1];exact h0,by rw[fa.2.1,fa.2.2];exact h1,.inl ⟨fa.1,by rw[fa.2.1,fa.2.2];exact hsh,ShK.signed⟩⟩
  .rw [if_neg c2]
   have hcalm:p.lo=1-2^(k+1)/\p.hi=2^(k+1)-1:=by
    rcases h2 with z |z |z
    .exact absurd z.1 c3
    .exact z.2
    .exact absurd z.1 c2
   split
   .exact Xoa h0 h1 hcalm hc S.wk hA hb.no
   .have hw:ShW k ⟨0,p.s,p.e,1-2^k,2^k-1⟩:=⟨h0,h1,.inr ⟨rfl,rfl,rfl⟩⟩
    unfold Wk.calm
    by_cases c1:p.a=1
    .rw [if_pos c1]
     obtain⟨r,q,rfl,qa,q2,q3,q0⟩:=hb.sib c1
     have hq:q.lo=1-2^(k+1)/\q.hi=2^(k+1)-1:=by
      rcases (hA q (by simp)).2.2 with z |z |z
      .rw [qa]at z;cases z.1
      .exact z.2
      .rw [qa]at z;cases z.1
     unfold Wk.walked
     dsimp only
     rw[dropLast_concat,getLastD_concat,ek]
     refine Xoa q0 q3 hq ?_ (λz hz=>?_) (λz hz=>hA z (by simp[hz])) λz hz=>hb.no z (by simp[hz])
     .show Xe3 0 (w.wk++[_]++q::r.reverse) m
      rw[reverse_append]at hc
      rw[append_assoc]
      exact Xk1 hc rfl rfl
     .rcases mem_append.mp hz with y |y
      .exact S.wk z y
      .rw [mem_singleton.mp y];exact hw
    .rw [if_neg c1]
     unfold Wk.walked
     dsimp only
     rw[ek]
     exact put _ rfl rfl hw
theorem Xoz {m:Int}{k:Nat}{w:Wk}(S:Sh0 m k w):∀p∈w.wk,p.a=0∨p.a=3:=λp hp=>by
 rcases (S.wk p hp).2.2 with z |z
 .exact .inr z.1
 .exact .inl z.1
structure Shp (m:Int) (w:Wk):Prop where
 sh:Sh0 m w.pl.toNat w
 ne:0<=w.pl->w.ah≠[]
 wh:w.pl<0->w.pl = -1/\w.ah=[]
theorem Xob {m:Int}{k:Nat}{w:Wk}(hm:0<m)(S:Sh0 m k w)(hk:w.pl=k)(ha:w.ah=[]):Shp m w.turn:=by
 have hc:=S.ch
 rw[ha]at hc
 have hc:Xe3 0 (w.wk++[]) m:=hc
 rw[append_nil]at hc
 have hne:w.wk≠[]:=λz=>by
  rw[z]at hc
  have:(0:Int)=m:=hc
  omega
 unfold Wk.turn
 split
 .rename_i c
  obtain⟨j,rfl⟩:∃j,k=j+1:=⟨k-1,by omega⟩
  have ej:(w.pl-1).toNat=j:=by omega
  refine⟨?_,λ_=>by simpa using hne,λz=>?_⟩
  .show Sh0 m (w.pl-1).toNat _
   rw[ej]
   refine⟨?_,(λp hp=>by cases hp),λp hp=>?_,?_⟩
   .show Xe3 0 ([]++w.wk.reverse.reverse) m
    rw[List.reverse_reverse]
    exact hc
   .have hw:=S.wk p (by simpa using hp)
    refine⟨hw.1,hw.2.1,?_⟩
    rcases hw.2.2 with z |z
    .exact .inl z
    .exact .inr (.inl ⟨.inl z.1,z.2⟩)
   .refine Xxa λz hz=>?_
    rcases Xoz S z (by simpa using hz) with y |y<;>rw[y]<;>decide
  .have:w.pl-1<0:=z
   omega
 .rename_i c
  have e0:k=0:=by omega
  subst e0
  refine⟨?_,λz=>?_,λ_=>⟨by show w.pl-1 = -1;omega,ha⟩⟩
  .show Sh0 m (w.pl-1).toNat _
   rw[show (w.pl-1).toNat=0 by omega]
   exact⟨S.ch,S.wk,S.ah,S.sib⟩
  .have:0<=w.pl-1:=z
   omega
theorem Xlh {m:Int}{k:Nat}{w:Wk}(hm:0<m)(S:Sh0 m k w)(hk:w.pl=k):Shp m w.rowEnd:=by
 unfold Wk.rowEnd
 split
 .rename_i c
  exact Xob (w:={w with re:=w.re++[w.us]}) hm ⟨S.ch,S.wk,S.ah,S.sib⟩ hk c
 .rename_i c
  refine⟨by rw[show w.pl.toNat=k by omega];exact S,λ_=>c,λz=>by omega⟩
theorem Xl9 {m:Int}(hm:0<m)(n:Nat):Shp m (Wk.turn ⟨n,0,[],[⟨0,0,m,1-2^n,2^n-1⟩],[]⟩):=by
 refine Xob (k:=n) hm ⟨⟨rfl,hm,rfl⟩,λp hp=>?_,(λp hp=>by cases hp),λah p e=>?_⟩ rfl rfl
 .rw [mem_singleton.mp hp]
  exact⟨Int.le_refl 0,hm,.inr ⟨rfl,rfl,rfl⟩⟩
 .have:=congrArg List.length e
  simp at this
theorem Xw3 {w:Wk}{ah:List Pa}{p:Pa}{b:Bool}:(w.step ah p b).pl=w.pl/\(w.step ah p b).us=w.us+1/\(w.step ah p b).re=w.re:=by
 unfold Wk.step Wk.calm Wk.wake Wk.walked
 repeat (any_goals split)
 all_goals exact⟨rfl,rfl,rfl⟩
theorem Xu9 {xs:List Int}{n:Nat}(h:∀x∈xs,x.natAbs<2^n):Xhp xs (Wk.turn ⟨n,0,[],[⟨0,0,xs.length,1-2^n,2^n-1⟩],[]⟩):=by
 refine (Xtv (w:=⟨n,0,[],[⟨0,0,xs.length,1-2^n,2^n-1⟩],[]⟩) (by show 0<=(n:Int);omega) rfl (λp hp=>by rw[mem_singleton.mp hp];exact .inl rfl)).mpr ?_
 unfold Xhp
 show Yd2 xs ((n:Int).toNat) _
 rw[toNat_natCast]
 refine⟨λp hp=>?_,(λp hp=>by cases hp),Xkc λz hz=>by cases hz⟩
 rw[mem_singleton.mp hp]
 refine⟨λz=>absurd z (by show ¬ (0:Int)=3;decide),λ_ i a b=>?_⟩
 have hi:i<xs.length:=by
  have:(i:Int)<(xs.length:Int):=b
  omega
 rw[getD_eq_getElem?_getD,getElem?_eq_getElem hi]
 exact h _ (getElem_mem hi)
def phi (p:Pa):Nat:=if p.a=3∨p.a=2 then 1 else 3*(p.e-p.s).toNat-1
def Xjw (ps:List Pa):Nat:=(ps.map phi).sum
theorem Xka (ps qs:List Pa):Xjw (ps++qs)=Xjw ps+Xjw qs:=by simp[Xjw]
theorem Xj9 (p:Pa):Xjw [p]=phi p:=by simp[Xjw]
theorem Ya6 (ps:List Pa):Xjw ps.reverse=Xjw ps:=by
 induction ps with
 |nil=>rfl
 |cons p ps ih=>rw[reverse_cons,Xka,ih,Xj9];simp[Xjw];omega
theorem Yfi {p:Pa}(h:p.s<p.e):1<=phi p:=by
 unfold phi
 split<;>omega
theorem Yiq {p:Pa}(h:p.s<p.e):phi p<=3*(p.e-p.s).toNat:=by
 unfold phi
 split<;>omega
theorem Xor:∀{ps:List Pa} {a b:Int},Xe3 a ps b->(Xjw ps:Int)<=3*(b-a)
 | [],a,b,h=>by cases (show a=b from h);simp[Xjw]
 |p::ps,a,b,⟨h1,h2,h3⟩=>by
  have ih:=Xor h3
  have hp:=Yiq h2
  have e:Xjw (p::ps)=phi p+Xjw ps:=by simp[Xjw]
  rw[e]
  omega
theorem Xtr {w:Wk}{q:Pa}(h1:q.s<q.e)(h3:q.a≠3)(h2:q.a≠2):Xjw (w.wake q).ah+1<=Xjw w.ah+phi q:=by
 have hq:phi q=3*(q.e-q.s).toNat-1:=by
  unfold phi
  rw[if_neg (by rintro (z |z);exact h3 z;exact h2 z)]
 unfold Wk.wake
 split
 .dsimp only
  rw[Xka,Xj9,hq]
  show Xjw w.ah+1+1<=_
  clear h1;omega
 .rename_i c
  dsimp only
  have hm1:q.s<(q.s+q.e) / 2:=by omega
  have hm2:(q.s+q.e) / 2<q.e:=by omega
  generalize (q.s+q.e) / 2=m at hm1 hm2
  have e:Xjw [(⟨0,m,q.e,q.lo,q.hi⟩:Pa),⟨1,q.s,m,q.lo,q.hi⟩]=(3*(q.e-m).toNat-1)+(3*(m-q.s).toNat-1):=by
   simp[Xjw,phi]
  rw[Xka,e,hq]
  omega
theorem Xo2 {m:Int}{k:Nat}{w:Wk}{ah:List Pa}{p:Pa}{b:Bool}(S:Sh0 m k w)(e:w.ah=ah++[p]):Xjw (w.step ah p b).ah+1<=Xjw w.ah:=by
 have hb:=S.sib ah p e
 obtain⟨h0,h1,_⟩:=S.ah p (by rw[e];simp)
 have hp:=Yfi h1
 rw[e,Xka,Xj9]
 unfold Wk.step
 split
 .show Xjw ah+1<=_;omega
 .rename_i c3
  split
  .show Xjw ah+1<=_;omega
  .rename_i c2
   split
   .exact Xtr (w:={w with us:=w.us+1,ah:=ah}) h1 c3 c2
   .unfold Wk.calm
    split
    .rename_i c1
     obtain⟨r,q,rfl,qa,q2,q3,q0⟩:=hb.sib c1
     unfold Wk.walked
     dsimp only
     rw[dropLast_concat,getLastD_concat,Xka,Xj9]
     refine le_trans (Xtr q3 (by rw[qa];decide) (by rw[qa];decide)) ?_
     show Xjw r+phi q<=_
     omega
    .show Xjw ah+1<=_;omega
def mu (m:Nat)(w:Wk):Nat:=if w.pl<0 then 0 else 3*m*w.pl.toNat+Xjw w.ah
theorem Xq4 {m k:Nat}{w:Wk}(S:Sh0 m k w)(hk:w.pl=k):mu m w.rowEnd<=3*m*k+Xjw w.ah:=by
 unfold Wk.rowEnd
 split
 .rename_i c
  unfold Wk.turn
  split
  .rename_i c2
   obtain⟨j,rfl⟩:∃j,k=j+1:=⟨k-1,by have:w.pl-1>=0:=c2;omega⟩
   unfold mu
   dsimp only
   rw[if_neg (by omega),Ya6,show (w.pl-1).toNat=j by omega]
   have hc:=S.ch
   rw[c]at hc
   have hc:Xe3 0 (w.wk++[]) m:=hc
   rw[append_nil]at hc
   have:=Xor hc
   have e:3*m*(j+1)=3*m*j+3*m:=by rw[Nat.mul_succ]
   omega
  .rename_i c2
   unfold mu
   dsimp only
   rw[if_pos (by have:¬ w.pl-1>=0:=c2;omega)]
   omega
 .unfold mu
  rw[if_neg (by omega),show w.pl.toNat=k by omega]
  exact Nat.le_refl _
inductive Fol:Wk->List Bool->Wk->Prop
 |nil {w:Wk}:Fol w [] w
 |whole {w:Wk} {b:Bool} {bs:List Bool} (h:w.pl<0):Fol w (b::bs) w
 |step {w v:Wk} {ah:List Pa} {p:Pa} {b:Bool} {bs:List Bool} (h:0<=w.pl) (h5:w.pl<=5000) (hf:w.fits) (e:w.ah=ah++[p]) (h1:p.a=1->b=false->ah≠[]) (t:Fol ((w.step ah p b).rowEnd) bs v):Fol w (b::bs) v
def Pa.sp (p:Pa):D:=.tup [.int p.lo,.int p.hi]
def Yed (w:Wk):List D:=(w.wk++w.ah.reverse).flatMap λp=>List.replicate (p.e-p.s).toNat p.sp
def Xja:DMo:=λts ds P=>∃(w v:Wk) (bs:List Bool),ts=w.ts/\ds=[.str (Xcf bs)]/\Fol w bs v/\P v.ts
def Xmd:DSp:=λds P=>∃(bs:List Bool) (m:Int) (n:Nat) (v:Wk),ds=[.str (Xcf bs),.int m,.int n]/\n<=5000/\Fol (Wk.turn ⟨n,0,[],[⟨0,0,m,1-2^n,2^n-1⟩],[]⟩) bs v/\P (.ob none "Walk" ns_Walk v.ts)
abbrev Xcs:Stmt:=Xhb (top 29) 5
theorem Xje:FnScope ["self","bits","bit"] ["self","bits"] (Xac Xcs):=by walk_at "S"
abbrev Xek:Stmt:=top 31
theorem Xmj:FnScope ["bits","many","planes","walk"] ["bits","many","planes"] (Xac Xek):=by walk_at "S"
theorem Xn4 {f:Addr}{fd:FuncData}(Df:MetAt K "Walk" "follow" "Walk.follow" Xcs f fd)(B:BltV mg)(KV:KitV K)(CV_Walk:ClsV K "Walk" ns_Walk)(Xbl:CalM P w K mg base "Walk" "is_whole" 1 ["self"] (spV K 1 Xdo))(Xet:CalM P w K mg base "Walk" "take" 4 ["self","told"] (spM K 2 "Walk" ns_Walk Xh7)):
  CalM P w K mg base "Walk" "follow" 5 ["self","bits"] (spM K 2 "Walk" ns_Walk Xja):=by
 refine CalM.of Df Xje (by walk_at "b") rfl (λc A o s H E hr=>⟨_,_,(Xaj (Xgr PassesOwn.never rfl (Yc3 (pv 1)) (Xa4 (i:=2) Xje.nd rfl (Or.inl rfl)) (Xag (Xcb (Xch (Xis Xbl (hr.mono (by decide)) (pv 0))) (Xaj Ya3) Xbb)
   (Xaj (Xbz (Xic Xet (hr.mono (by decide)) (pv 0) (Xaa (Xfv Xi1 (pv 2) Xb0 (Xbg _)) Xad))))))),
  (Xgp (Ycw Xae) Xa5 (Xao (Xcg (Xkm (Xb8 (Xlz CV_Walk (by decide +kernel) Xae Xam))) Yas Xba)
   (Xg3 CV_Walk (by decide +kernel) (Xab (Xas Xi2 Xae (Xaq Xbk)) Xak)))),?_⟩)
 rintro a ts ds Pr ⟨w,v,bs,rfl,rfl,hF,h⟩
 fin2
 rw[Xol,map_map]
 refine⟨λi δ=>∃(w':Wk) (o:Option Sl),Fol w' (bs.drop i) v/\δ=[some (.own (.ob (some a) "Walk" ns_Walk w'.ts)),vD (.str (Xcf bs)),o],⟨w,none,hF,rfl⟩,?_,?_⟩
 .rintro i d δ hd ⟨w',o,hF',rfl⟩
  obtain⟨b,hb,rfl⟩:=Ydd hd
  have hi:=(List.getElem?_eq_some_iff.mp hb).1
  have hdr:bs.drop i=b::bs.drop (i+1):=by
   rw[List.drop_eq_getElem_cons hi]
   rw[getElem?_eq_getElem hi]at hb
   rw[Option.some.inj hb]
  rw[hdr]at hF'
  simp only[gN,Function.comp,set_cons_succ,set_cons_zero]
  gn_on
  refine⟨w',by rw[OV.vals_eq],?_⟩
  fin2
  cases hF' with
  |whole hl=>
   rw[if_pos hl]
   exact h
  | @step _ _ ah p _ _ h0 h5 hf e h1 t=>
   rw[if_neg (by omega)]
   gp_on
   fin2
   refine⟨w',ah,p,b,rfl,hf,by rw[Yb6],e,h0,h5,h1,?_⟩
   exact⟨_,_,t,rfl⟩
 .rintro δ ⟨w',o,hF',rfl⟩
  rw[length_map,List.drop_length]at hF'
  cases hF'
  exact⟨_,rfl,h⟩
theorem Xs4 {f:Addr}{fd:FuncData}(Df:DefAt K mg "followed" Xek f fd)(B:BltV mg)(KV:KitV K)(CV_Walk:ClsV K "Walk" ns_Walk)(Xci:CalK P w K mg base "Walk" 2 ["self","many","planes"] (spM K 3 "Walk" ns_Walk Xe5))(Xhn:CalM P w K mg base "Walk" "follow" 5 ["self","bits"] (spM K 2 "Walk" ns_Walk Xja)):
  Cal P w K mg base "followed" 6 ["bits","many","planes"] (spV K 3 Xmd):=by
 refine CalV.of Df Xmj (by walk_at "b") rfl (λc A o s H E hr=>⟨_,_,(Xag (Xa6 (i:=3) Xmj.nd rfl (Or.inl rfl) (Xx5 Xci (hr.mono (by decide)) (by rfl) (Xaa (pv 1) (Xaa (pv 2) Xad))))
   (Xag (Xbz (Xic Xhn (hr.mono (by decide)) (pv 3) (Xaa (pv 0) Xad)))
   (Xaj (Xax (pv 3))))),
  (Xao (Xa2 (Xxj CV_Walk (Xab Xah (Xab Xah Xak))))
   (Xao (Xg3 CV_Walk (by decide +kernel) (Xab Xah Xak))
   Xmo)),?_⟩)
 rintro ds Pr ⟨bs,m,n,v,rfl,hn,hF,h⟩
 gn_on
 refine⟨m,n,rfl,rfl,hn,?_⟩
 gp_on
 gn_on
 refine⟨_,v,bs,rfl,rfl,hF,?_⟩
 gp_on
 fin2
 exact h
theorem Xq3 {w:Wk}:w.rowEnd.us=w.us/\w.rowEnd.re.length<=w.re.length+1/\w.rowEnd.pl<=w.pl/\(w.rowEnd.re.length:Int)+w.rowEnd.pl<=w.re.length+w.pl:=by
 unfold Wk.rowEnd
 split
 .unfold Wk.turn
  split
  .refine ⟨rfl,by simp,by show w.pl-1<=w.pl;omega,?_⟩
   show (((w.re++[w.us]).length:Nat):Int)+(w.pl-1)<=_
   rw[length_append,length_singleton];omega
  .refine ⟨rfl,by simp,by show w.pl-1<=w.pl;omega,?_⟩
   show (((w.re++[w.us]).length:Nat):Int)+(w.pl-1)<=_
   rw[length_append,length_singleton];omega
 .exact ⟨rfl,by omega,Int.le_refl _,Int.le_refl _⟩
theorem Xt2 {m:Nat}{w:Wk}(S:Shp m w)(hm:m<400000)(hr:w.re.length<900000):w.fits:=by
 have:=Xp1 S.sh.ch
 rw[length_append,length_reverse]at this
 exact⟨hr,by omega,by omega⟩
theorem Yak {xs:List Int}{m:Nat}(hx:xs.length=m)(hm0:0<m)(hm:m<400000):∀(N:Nat) (w:Wk),mu m w<=N->Shp m w->Xhp xs w->w.pl<=5000->(w.re.length:Int)+w.pl<800000->
  ∃bs v,Tell xs w bs/\Fol w bs v/\v.pl<0/\Shp m v/\Xhp xs v/\bs.length<=mu m w/\v.us=w.us+bs.length:=by
 intro N
 induction N with
 |zero=>
  intro w hN S C h5 hr
  by_cases hp:w.pl<0
  .exact ⟨[],w,.done hp,.nil,hp,S,C,zero_le _,by simp⟩
  .exfalso
   obtain⟨ah,p,e⟩:∃ah p,w.ah=ah++[p]:=⟨_,_,(List.dropLast_concat_getLast (S.ne (by omega))).symm⟩
   have:=Xo2 (b:=true) S.sh e
   unfold mu at hN
   rw[if_neg hp]at hN
   omega
 |succ N ih=>
  intro w hN S C h5 hr
  by_cases hp:w.pl<0
  .exact ⟨[],w,.done hp,.nil,hp,S,C,zero_le _,by simp⟩
  .obtain ⟨k,hk⟩:∃k:Nat,w.pl=k:=⟨w.pl.toNat,by omega⟩
   have ek:w.pl.toNat=k:=by omega
   obtain⟨ah,p,e⟩:∃ah p,w.ah=ah++[p]:=⟨_,_,(List.dropLast_concat_getLast (S.ne (by omega))).symm⟩
   have S0:Sh0 m k w:=ek▸S.sh
   have hA:=S0.ah p (by rw[e];simp)
   have hmem:=Xkj (p:=p) S0.ch (by rw[e];simp)
   have hB:=S0.sib ah p e
   have S1:=Xod (b:=Xl4 xs (k:Int) p) S0 hk e
   obtain⟨q1,q2,q3⟩:=Xw3 (w:=w) (ah:=ah) (p:=p) (b:=Xl4 xs (k:Int) p)
   have hk1:(w.step ah p (Xl4 xs (k:Int) p)).pl=k:=by rw[q1];exact hk
   have S2:=Xlh (by omega) S1 hk1
   have C1:Yd2 xs k (w.step ah p (Xl4 xs (k:Int) p)):=(Xtz hk e hA hB (by rw[hx];exact hmem.2.2)).mpr ⟨by unfold Xhp at C;rw[ek]at C;exact C,rfl⟩
   have C2:Xhp xs (w.step ah p (Xl4 xs (k:Int) p)).rowEnd:=(Xop (by rw[hk1];omega) (Xoz S1)).mpr (by unfold Xhp;rw[hk1,toNat_natCast];exact C1)
   obtain⟨r1,r2,r3,r4⟩:=Xq3 (w:=w.step ah p (Xl4 xs (k:Int) p))
   have hmu:=Xq4 S1 hk1
   have hphi:=Xo2 (b:=Xl4 xs (k:Int) p) S0 e
   have hw:mu m w=3*m*k+Xjw w.ah:=by unfold mu;rw[if_neg hp,ek]
   rw[q1]at r3
   rw[q1,q3]at r4
   obtain⟨bs,v,t1,t2,t3,t4,t5,t6,t7⟩:=ih _ (by omega) S2 C2 (by (clear hx hm0 hm hN hmem r2 hmu hw;omega)) (by (clear hx hm0 hm hN hmem hmu hw;omega))
   have hf:=Xt2 S hm (by (clear hx hm0 hm hN hmem hmu hw t3 t6 t7;omega))
   have hone:p.a=1->Xl4 xs (k:Int) p=false->ah≠[]:=λz _=>by
    obtain⟨r,q,er,_⟩:=hB.sib z
    rw[er];simp
   refine⟨Xl4 xs (k:Int) p::bs,v,?_,?_,t3,t4,t5,?_,?_⟩
   .have:=Tell.step (xs:=xs) (w:=w) (ah:=ah) (p:=p) (bs:=bs) (by (clear hx hm0 hm hN hmem hmu hw t3 t6 t7;omega)) h5 hf e ⟨hmem.1,hmem.2.1,by rw[hx];exact hmem.2.2⟩ (by rw[hk];exact hone) (by rw[hk];exact t1)
    rw[hk]at this
    exact this
   .exact Fol.step (by (clear hx hm0 hm hN hmem hmu hw t3 t6 t7;omega)) h5 hf e hone t2
   .rw [length_cons];(clear hN t3 t7;omega)
   .rw [t7,r1,q2,length_cons];omega
theorem Xzj {w v:Wk}{bs cs:List Bool}(h:Fol w bs v)(hv:v.pl<0):Fol w (bs++cs) v:=by
 induction h with
 |nil=>
  cases cs with
  |nil=>exact .nil
  |cons c cs=>exact .whole hv
 |whole h=>exact .whole h
 |step h h5 hf e h1 t ih=>exact .step h h5 hf e h1 (ih hv)
theorem Xma (m n:Nat):(Wk.turn ⟨n,0,[],[⟨0,0,m,1-2^n,2^n-1⟩],[]⟩).pl=n-1/\(Wk.turn ⟨n,0,[],[⟨0,0,m,1-2^n,2^n-1⟩],[]⟩).re=[]/\(Wk.turn ⟨n,0,[],[⟨0,0,m,1-2^n,2^n-1⟩],[]⟩).us=0/\mu m (Wk.turn ⟨n,0,[],[⟨0,0,m,1-2^n,2^n-1⟩],[]⟩)<=3*m*n:=by
 unfold Wk.turn
 split
 .rename_i c
  refine⟨rfl,rfl,rfl,?_⟩
  have c:(n:Int)-1>=0:=c
  obtain⟨k,rfl⟩:∃k,n=k+1:=⟨n-1,by omega⟩
  unfold mu
  rw[if_neg (by show ¬ ((k+1:Nat):Int)-1<0;omega)]
  show 3*m*(((k+1:Nat):Int)-1).toNat+Xjw [_]<=_
  rw[Xj9,show (((k+1:Nat):Int)-1).toNat=k by omega]
  unfold phi
  rw[if_neg (by simp)]
  show 3*m*k+(3*((m:Int)-0).toNat-1)<=3*m*(k+1)
  rw[mul_add]
  omega
 .rename_i c
  have c:¬ (n:Int)-1>=0:=c
  refine⟨rfl,rfl,rfl,?_⟩
  unfold mu
  rw[if_pos (by show (n:Int)-1<0;omega)]
  exact zero_le _
theorem Xzi {w v u:Wk}{as bs:List Bool}(h:Fol w as v)(h2:Fol v bs u):Fol w (as++bs) u:=by
 induction h with
 |nil=>exact h2
 |whole h=>
  cases h2 with
  |nil=>exact .whole h
  |whole _=>exact .whole h
  |step h0=>omega
 |step h h5 hf e h1 t ih=>exact .step h h5 hf e h1 (ih h2)
theorem Xtj {m:Nat}(hm0:0<m)(hm:m<400000):∀(bs:List Bool) (w:Wk),Shp m w->w.pl<=5000->(w.re.length:Int)+w.pl<800000->
  ∃(v:Wk) (u:Nat),Fol w bs v/\Shp m v/\u<=bs.length/\v.us=w.us+u/\mu m v+u<=mu m w/\(0<=v.pl->u=bs.length)/\(0<=w.pl->v.pl<0->1<=u)/\v.pl<=w.pl/\(v.re.length:Int)+v.pl<=w.re.length+w.pl/\
   ∀xs:List Int,xs.length=m->Xhp xs v->Xhp xs w/\∀ts,Tell xs v ts->Tell xs w (bs.take u++ts)
 | [],w,S,h5,hr=>⟨w,0,.nil,S,Nat.le_refl _,by simp,by omega,(λ_=>rfl),(λa b=>by omega),Int.le_refl _,Int.le_refl _,λxs hx C=>⟨C,λts t=>t⟩⟩
 |b :: bs,w,S,h5,hr=>by
  by_cases hp:w.pl<0
  .exact ⟨w,0,.whole hp,S,zero_le _,by simp,by omega,(λz=>by omega),(λa _=>by omega),Int.le_refl _,Int.le_refl _,λxs hx C=>⟨C,λts t=>t⟩⟩
  .obtain ⟨k,hk⟩:∃k:Nat,w.pl=k:=⟨w.pl.toNat,by omega⟩
   have ek:w.pl.toNat=k:=by omega
   obtain⟨ah,p,e⟩:∃ah p,w.ah=ah++[p]:=⟨_,_,(List.dropLast_concat_getLast (S.ne (by omega))).symm⟩
   have S0:Sh0 m k w:=ek▸S.sh
   have hA:=S0.ah p (by rw[e];simp)
   have hmem:=Xkj (p:=p) S0.ch (by rw[e];simp)
   have hB:=S0.sib ah p e
   have S1:=Xod (b:=b) S0 hk e
   obtain⟨q1,q2,q3⟩:=Xw3 (w:=w) (ah:=ah) (p:=p) (b:=b)
   have hk1:(w.step ah p b).pl=k:=by rw[q1];exact hk
   have S2:=Xlh (by omega) S1 hk1
   obtain⟨r1,r2,r3,r4⟩:=Xq3 (w:=w.step ah p b)
   have hmu:=Xq4 S1 hk1
   have hphi:=Xo2 (b:=b) S0 e
   have hw:mu m w=3*m*k+Xjw w.ah:=by unfold mu;rw[if_neg hp,ek]
   rw[q1]at r3
   rw[q1,q3]at r4
   obtain⟨v,u,t1,t2,t3,t4,t5,t6,t7,t8,t9,t10⟩:=Xtj hm0 hm bs _ S2 (by (clear hm0 hm hmem r2 hmu hw;omega)) (by omega)
   have hf:=Xt2 S hm (by omega)
   have hone:p.a=1->b=false->ah≠[]:=λz _=>by
    obtain⟨r,q,er,_⟩:=hB.sib z
    rw[er];simp
   refine⟨v,u+1,.step (by omega) h5 hf e hone t1,t2,by rw[length_cons];omega,by rw[t4,r1,q2];omega,by omega,(λz=>by rw[length_cons,t6 z]),(λ_ _=>by omega),by (clear hm0 hm hmem hmu hw t3 t4 t5;omega),by (clear hm0 hm hmem hmu hw t3 t4 t5;omega),λxs hx C=>?_⟩
   obtain⟨c1,c2⟩:=t10 xs hx C
   have C1:Yd2 xs k (w.step ah p b):=by
    have:=(Xop (by rw[hk1];omega) (Xoz S1)).mp c1
    unfold Xhp at this
    rw[hk1,toNat_natCast]at this
    exact this
   obtain⟨C0,hb⟩:=(Xtz hk e hA hB (by rw[hx];exact hmem.2.2)).mp C1
   refine⟨by unfold Xhp;rw[ek];exact C0,λts t=>?_⟩
   have:=c2 ts t
   rw[List.take_succ_cons,cons_append]
   rw[hb]at this hone ⊢
   have T:=Tell.step (xs:=xs) (w:=w) (ah:=ah) (p:=p) (bs:=bs.take u++ts) (by omega) h5 hf e ⟨hmem.1,hmem.2.1,by rw[hx];exact hmem.2.2⟩ (by rw[hk];exact hone) (by rw[hk];exact this)
   rw[hk]at T
   exact T
theorem Xuw {α:Type}(f:Pa->α):∀{ps:List Pa} {a b:Int} {p:Pa} {i:Int},Xe3 a ps b->p∈ps->p.s<=i->i<p.e->(ps.flatMap λp=>List.replicate (p.e-p.s).toNat (f p))[(i-a).toNat]?=some (f p)
 |q :: ps,a,b,p,i,⟨h1,h2,h3⟩,hp,hi1,hi2=>by
  rw[List.flatMap_cons]
  rcases mem_cons.mp hp with rfl |hp'
  .rw [getElem?_append_left (by rw[length_replicate];omega),List.getElem?_replicate,if_pos (by omega)]
  .have:=(Xkj h3 hp').1
   rw[getElem?_append_right (by rw[length_replicate];omega),length_replicate]
   have:=Xuw f h3 hp' hi1 hi2
   rw[show (i-a).toNat-(q.e-q.s).toNat=(i-q.e).toNat by omega]
   exact this
theorem Xne:∀{ps:List Pa} {a b i:Int},Xe3 a ps b->a<=i->i<b->∃p∈ps,p.s<=i/\i<p.e
 | [],a,b,i,h,h1,h2=>by cases (show a=b from h);omega
 |q :: ps,a,b,i,⟨h1,h2,h3⟩,hi1,hi2=>by
  by_cases h:i<q.e
  .exact ⟨q,by simp,by omega,h⟩
  .obtain ⟨p,hp,h4⟩:=Xne h3 (show q.e<=i by omega) hi2
   exact⟨p,by simp[hp],h4⟩
theorem part_at {m:Nat}{w:Wk}(S:Shp m w){i:Nat}(hi:i<m):∃p∈w.wk++w.ah,p.s<=i/\(i:Int)<p.e/\(Yed w)[i]?=some p.sp:=by
 obtain⟨p,hp,h1,h2⟩:=Xne S.sh.ch (show (0:Int)<=i by omega) (by omega)
 refine⟨p,by simpa using hp,h1,h2,?_⟩
 have:=Xuw Pa.sp S.sh.ch hp h1 h2
 rw[show ((i:Int)-0).toNat=i by omega]at this
 exact this
def near (p:Pa):Int:=if p.lo > 0 then p.lo else p.hi
theorem Ygp {w v v':Wk}{bs:List Bool}(h:Fol w bs v)(h2:Fol w bs v'):v=v':=by
 induction h with
 |nil=>cases h2;rfl
 |whole h=>
  cases h2 with
  |whole _=>rfl
  |step h0=>omega
 |step h h5 hf e h1 t ih=>
  cases h2 with
  |whole h0=>omega
  |step _ _ _ e' _ t'=>
   rw[e]at e'
   obtain⟨rfl,e2⟩:=append_inj' e' rfl
   cases e2
   exact ih t'
def known (x:Int)(k:Nat):Int×Int:=
 if (x.natAbs:Int) / 2^k*2^k=0 then (1-2^k,2^k-1) else if x<0 then (1-(x.natAbs:Int) / 2^k*2^k-2^k,0-(x.natAbs:Int) / 2^k*2^k) else ((x.natAbs:Int) / 2^k*2^k,(x.natAbs:Int) / 2^k*2^k+2^k-1)
theorem Ygw {m:Nat}(hm0:0<m)(hm:m<400000){w v:Wk}{bs:List Bool}(F:Fol w bs v)(S:Shp m w)(h5:w.pl<=5000)(hr:(w.re.length:Int)+w.pl<800000)(h0:w.us=0){c:Nat}(hc:c<=bs.length):
  ∃u,Fol w (bs.take c) u/\Shp m u/\Fol u (bs.drop c) v/\Shp m v/\u.us=min (c:Int) v.us/\decide (u.pl<0)=(decide (v.pl<0) && decide (v.us<=(c:Int)))/\u.pl<=w.pl/\(u.re.length:Int)+u.pl<=w.re.length+w.pl:=by
 obtain⟨u,k,a1,a2,a3,a4,a5,a6,a7,a8,a9,a10⟩:=Xtj hm0 hm (bs.take c) w S h5 hr
 obtain⟨v2,k2,b1,b2,b3,b4,b5,b6,b7,b8,b9,b10⟩:=Xtj hm0 hm (bs.drop c) u a2 (by omega) (by omega)
 have F2:=Xzi a1 b1
 rw[List.take_append_drop]at F2
 have e:=Ygp F F2
 subst e
 rw[length_take,Nat.min_eq_left hc]at a3 a6
 have hk2:u.pl<0->k2=0:=λz=>by
  have:mu m u=0:=by unfold mu;rw[if_pos z]
  omega
 refine⟨u,a1,a2,b1,b2,?_,?_,a8,a9⟩
 .by_cases z:u.pl<0
  .have:=hk2 z;(clear hm0 hm hc a5 b3 b5;omega)
  .have:=a6 (by omega);(clear hm0 hm hc a5 b3 b5;omega)
 .rw [<- Bool.decide_and]
  refine decide_eq_decide.mpr ⟨λz=>?_,λz=>?_⟩
  .have:=hk2 z
   exact⟨by (clear hm0 hm hc a3 a4 a5 b3 b4 b5 b9 this;omega),by (clear hm0 hm hc a5 b3 b5;omega)⟩
  .by_cases y:u.pl<0
   .exact y
   .have:=a6 (by omega)
    have:=b7 (by omega) z.1
    clear hm0 hm hc a5 b3 b5;omega
abbrev Xds:Stmt:=top 34
theorem Xqr:FnScope ["some"] ["some"] (Xac Xds):=by walk_at "S"
def Xlc:DSp:=λds P=>∃xs:List Int,ds=[.lst (xs.map .int)]/\0<xs.length/\xs.length<=1000000/\∀M:Nat,(∃x∈xs,ibN x=M)->(∀x∈xs,ibN x<=M)->P (.fz (.int M))
theorem Xrl {f:Addr}{fd:FuncData}(Df:DefAt K mg "planes_of" Xds f fd)(B:BltV mg)(KV:KitV K)(CV_Walk:ClsV K "Walk" ns_Walk)(Xd4:Cal P w K mg base "heights_of" 1 ["some"] (spV K 1 Xgv)):
  Cal P w K mg base "planes_of" 2 ["some"] (spV K 1 Xlc):=by
 refine CalV.of Df Xqr (by walk_at "b") rfl (λc A o s H E hr=>⟨_,_,(Xaj (Xax (Xap (Xsd rfl) (by rfl) B.max boot_max (Xaa (Xa0 Xd4 (hr.mono (by decide)) (by rfl) (Xaa (pv 0) Xad)) Xad)))),
  (Xa1 (Xbf (Xbh Xz7 (Xaf (Xaq (Xb8 (Xau (Xab Xah Xak)))) Xam)))),?_⟩)
 rintro ds Pr ⟨xs,rfl,x0,hx,k⟩
 fin2
 refine⟨xs,rfl,hx,?_⟩
 fin2
 refine⟨xs.map λx=>(ibN x:Int),by simp only[map_map,Function.comp_def,OV.val],by simpa using x0,λM hM hA=>?_⟩
 obtain⟨x,hm,rfl⟩:=mem_map.mp hM
 refine k (ibN x) ⟨x,hm,rfl⟩ λy hy=>?_
 have:=hA (ibN y) (mem_map.mpr ⟨y,hy,rfl⟩)
 omega
def nbL (t m s:Int):Int:=if t-s<0 then t+s else t-s
def nbR (t m s:Int):Int:=if m<=t+s then t-s else t+s
abbrev Xc6:Stmt:=top 54
theorem Xgx:FnScope ["at","many","stride","left","right"] ["at","many","stride"] (Xac Xc6):=by walk_at "S"
def Xfc:DSp:=λds P=>match ds with
 | [.int t,.int m,.int s]=>if t-s<0/\m<=t+s then P (.fz .non) else P (.fz (.tup [.int (nbL t m s),.int (nbR t m s)]))
 |_=>False
theorem Xpj {f:Addr}{fd:FuncData}(Df:DefAt K mg "neighbours" Xc6 f fd)(B:BltV mg)(KV:KitV K)(CV_Walk:ClsV K "Walk" ns_Walk):
  Cal P w K mg base "neighbours" 1 ["at","many","stride"] (spV K 3 Xfc):=by
 refine CalV.of Df Xgx (by walk_at "b") rfl (λc A o s H E hr=>⟨_,_,(Xag (Xa6 (i:=3) Xgx.nd rfl (Or.inl rfl) (Xaz Xfb (pv 0) (pv 2)))
   (Xag (Xa6 (i:=4) Xgx.nd rfl (Or.inl rfl) (Xaz Xef (pv 0) (pv 2)))
   (Xag (Xcb (Xxx (Xbe Xrh (pv 3) Xal (Xbg _)) (Xsy (Xbe Ybf (pv 4) (pv 1) (Xbg _)))).pt (Xaj (Xax Xx4)) Xbb)
   (Xag (Xcb (Xbe Xrh (pv 3) Xal (Xbg _)) (Xaj (Xax (Xcc (Xaa (pv 4) (Xaa (pv 4) Xad))))) Xbb)
   (Xag (Xcb (Xbe Ybf (pv 4) (pv 1) (Xbg _)) (Xaj (Xax (Xcc (Xaa (pv 3) (Xaa (pv 3) Xad))))) Xbb)
   (Xaj (Xax (Xcc (Xaa (pv 3) (Xaa (pv 4) Xad)))))))))),
  (Xao (Xa2 (Xbf (Xas Xc1 Xae Xae)))
   (Xao (Xa2 (Xbf (Xas Xc1 Xae Xae)))
   (Xao (Xcg (Xxd (Xbd (Xas Xhu Xae (Xaq Xai))) (Xbd (Xas Xhu Xae Xae))) (Xa1 (Xbf Xxp)) Xba)
   (Xao (Xcg (Xbd (Xas Xhu Xae (Xaq Xai))) (Xa1 (Xbf (Xdj (Xab Xah (Xab Xah Xak))))) Xba)
   (Xao (Xcg (Xbd (Xas Xhu Xae Xae)) (Xa1 (Xbf (Xdj (Xab Xah (Xab Xah Xak))))) Xba)
   (Xa1 (Xbf (Xdj (Xab Xah (Xab Xah Xak)))))))))),?_⟩)
 intro ds Pr h
 unfold Xfc at h
 split at h
 .rename_i t m s'
  fin2
  unfold nbL nbR at h
  by_cases h1:t-s'<0<;>by_cases h2:m<=t+s'<;>simpa[h1,h2] using h
 .exact h.elim
theorem Xuq (xs:List Int)(t p:Nat)(v:Int)(h:t<xs.length):(xs.set t v).getD p 0=if p=t then v else xs.getD p 0:=by
 rw[getD_eq_getElem?_getD,getD_eq_getElem?_getD,getElem?_set]
 by_cases e:p=t
 .subst e
  rw[if_pos rfl,if_pos rfl,if_pos h];rfl
 .rw [if_neg (λz=>e z.symm),if_neg e]
theorem Xus {F:Nat->List Int->Int}(S:Nat->Prop)(n:Nat)(hF:∀t xs ys,xs.length=n->ys.length=n->S t->t<n->(∀p,p=t∨¬ S p->xs.getD p 0=ys.getD p 0)->F t xs=F t ys):
  ∀(ts:List Nat) (xs:List Int),xs.length=n->ts.Nodup->(∀t∈ts,S t/\t<n)->
   (ts.foldl (λxs t=>xs.set t (F t xs)) xs).length=n/\∀p,(ts.foldl (λxs t=>xs.set t (F t xs)) xs).getD p 0=if p∈ts then F p xs else xs.getD p 0
 | [],xs,hl,_,_=>⟨hl,λp=>by simp⟩
 |t :: ts,xs,hl,nd,hs=>by
  obtain⟨n1,n2⟩:=nodup_cons.mp nd
  obtain⟨st,lt⟩:=hs t mem_cons_self
  obtain⟨e1,e2⟩:=Xus S n hF ts (xs.set t (F t xs)) (by rw[length_set];exact hl) n2 λu hu=>hs u (mem_cons_of_mem _ hu)
  refine⟨e1,λp=>?_⟩
  rw[foldl_cons,e2 p]
  by_cases hp:p∈ts
  .rw [if_pos hp,if_pos (mem_cons_of_mem _ hp)]
   obtain⟨sp,lp⟩:=hs p (mem_cons_of_mem _ hp)
   refine hF p _ _ (by rw[length_set];exact hl) hl sp lp λq hq=>?_
   rw[Xuq _ _ _ _ (by omega),if_neg]
   rintro rfl
   rcases hq with rfl |hq
   .exact n1 hp
   .exact hq st
  .rw [if_neg hp,Xuq _ _ _ _ (by omega)]
   by_cases e:p=t
   .subst e;rw[if_pos rfl,if_pos mem_cons_self]
   .rw [if_neg e,if_neg]
    intro z
    rcases mem_cons.mp z with z |z
    .exact e z
    .exact hp z
structure Lf where
 h:Int
 l:Int
 r:Int
 a:Int
 s:Int
structure Lf.Ok (f:Lf):Prop where
 h:f.h=0∨f.h=1
 l : -8<=f.l/\f.l<=8
 r : -8<=f.r/\f.r<=8
 a : -64<=f.a/\f.a<=64
 s:0<=f.s/\f.s<=8
def Xtc (f:Lf)(x y:Int):Int:=(f.l*x+f.r*y+f.a) / 2^f.s.toNat
def Ydz (h n st:Int):Nat:=(if h*st<n then (n-h*st-1) / (2*st)+1 else 0).toNat
theorem Xuv {h n st:Int}(hs:0<st)(i:Nat):i<Ydz h n st↔h*st+(i:Int)*(2*st)<n:=by
 unfold Ydz
 have h2:0<2*st:=by omega
 have h0:0<=(i:Int)*(2*st):=mul_nonneg (by omega) (by omega)
 split
 .rename_i hlt
  have e:=Int.le_ediv_iff_mul_le (a:=(i:Int)) (b:=n-h*st-1) h2
  have e0:0<=(n-h*st-1) / (2*st):=ediv_nonneg (by omega) (by omega)
  constructor
  .intro z
   have:=e.mp (by omega)
   omega
  .intro z
   have:=e.mpr (by omega)
   omega
 .simp only[Int.toNat_zero]
  omega
def Xgj (h n st:Int):List Int:=if n<=st then [] else (List.range (Ydz h n st)).map λ(i:Nat)=>h*st+(i:Int)*(2*st)
theorem Xia {h n st t:Int}(hs:0<st):t∈Xgj h n st↔¬ n<=st/\t<n/\∃i:Nat,t=h*st+(i:Int)*(2*st):=by
 unfold Xgj
 split
 .rename_i hn
  constructor
  .intro z;cases z
  .intro z;exact absurd hn z.1
 .rename_i hn
  rw[mem_map]
  constructor
  .rintro ⟨i,hi,rfl⟩
   exact⟨hn,(Xuv hs i).mp (mem_range.mp hi),i,rfl⟩
  .rintro ⟨_,h1,i,rfl⟩
   exact⟨i,mem_range.mpr ((Xuv hs i).mpr h1),rfl⟩
theorem Xrb {h n st:Int}(hs:0<st):(Xgj h n st).Nodup:=by
 unfold Xgj
 split
 .exact nodup_nil
 .refine List.Pairwise.map _ (λi j hij=>?_) List.nodup_range
  intro e
  have:(i:Int)*(2*st)=(j:Int)*(2*st):=by omega
  have:=Int.eq_of_mul_eq_mul_right (by omega) this
  omega
theorem Xyp {h n st t:Int}(hs:0<st)(hh:h=0∨h=1)(ht:t∈Xgj h n st):(0<=t/\t<n)/\(0<=nbL t n st/\nbL t n st<n)/\(0<=nbR t n st/\nbR t n st<n)/\¬ (t-st<0/\n<=t+st):=by
 obtain⟨h1,h2,i,rfl⟩:=(Xia hs).mp ht
 have hi:0<=(i:Int)*(2*st):=mul_nonneg (by omega) (by omega)
 have hz:0<=h*st:=by rcases hh with rfl |rfl<;>omega
 have key:h*st+(i:Int)*(2*st)-st<0->h*st+(i:Int)*(2*st)=0:=by
  intro z
  rcases Nat.eq_zero_or_pos i with rfl |hp
  .rcases hh with rfl |rfl
   .simp
   .simp at z ⊢<;>omega
  .have:1*(2*st)<=(i:Int)*(2*st):=Int.mul_le_mul_of_nonneg_right (by omega) (by omega)
   omega
 generalize h*st+(i:Int)*(2*st)=t at *
 unfold nbL nbR
 refine⟨⟨by omega,h2⟩,?_,?_,λz=>?_⟩
 .split<;>rename_i z
  .have:=key z;omega
  .omega
 .split
  .by_cases z:t-st<0
   .have:=key z;omega
   .omega
  .omega
 .have:=key z.1;omega
theorem Xuj {h n st t u:Int}(hs:0<st)(ht:∃i:Nat,t=h*st+(i:Int)*(2*st))(hu:u=nbL t n st∨u=nbR t n st):¬ ∃j:Nat,u=h*st+(j:Int)*(2*st):=by
 rintro⟨j,hj⟩
 obtain⟨i,hi⟩:=ht
 have key:∀d:Int,d=1∨d = -1->¬ (t+d*st=h*st+(j:Int)*(2*st)):=by
  intro d hd e
  have e2:((j:Int)-i)*(2*st)=d*st:=by rw[Int.sub_mul];omega
  have e3:(((j:Int)-i)*2-d)*st=0:=by rw[Int.sub_mul,mul_assoc];omega
  rcases Int.mul_eq_zero.mp e3 with z |z
  .rcases hd with rfl |rfl<;>omega
  .omega
 have k1:=key 1 (.inl rfl)
 have k2:=key (-1) (.inr rfl)
 unfold nbL nbR at hu
 rcases hu with rfl |rfl
 .split at hj
  .exact k1 (by omega)
  .exact k2 (by omega)
 .split at hj
  .exact k2 (by omega)
  .exact k1 (by omega)
def Xk8 (sg:Int)(f:Lf)(st:Int)(xs:List Int)(t:Int):Int:=
 xs.getD t.toNat 0+sg*Xtc f (xs.getD (nbL t xs.length st).toNat 0) (xs.getD (nbR t xs.length st).toNat 0)
def Xqa (sg:Int)(f:Lf)(st:Int)(xs:List Int)(t:Int):List Int:=xs.set t.toNat (Xk8 sg f st xs t)
def Xr1 (sg:Int)(f:Lf)(st:Int)(xs:List Int):List Int:=(Xgj f.h xs.length st).foldl (Xqa sg f st) xs
theorem Xsa (sg:Int)(f:Lf)(st:Int):∀(ts:List Int) (xs:List Int),(∀t∈ts,0<=t)->ts.foldl (Xqa sg f st) xs=(ts.map Int.toNat).foldl (λxs t=>xs.set t (Xk8 sg f st xs (t:Int))) xs
 | [],_,_=>rfl
 |t::ts,xs,h=>by
  rw[map_cons,foldl_cons,foldl_cons,Xsa sg f st ts _ λu hu=>h u (mem_cons_of_mem _ hu)]
  have:=h t mem_cons_self
  unfold Xqa
  rw[show ((t.toNat:Nat):Int)=t by omega]
theorem Xyu {sg:Int}{f:Lf}{st:Int}{xs:List Int}(hs:0<st)(hh:f.h=0∨f.h=1)(k:Nat):
  (((Xgj f.h xs.length st).take k).foldl (Xqa sg f st) xs).length=xs.length/\
  ∀p:Nat,(((Xgj f.h xs.length st).take k).foldl (Xqa sg f st) xs).getD p 0=if (p:Int)∈(Xgj f.h xs.length st).take k then Xk8 sg f st xs p else xs.getD p 0:=by
 by_cases hn:(xs.length:Int)<=st
 .have e:Xgj f.h xs.length st=[]:=if_pos hn
  rw[e]
  exact⟨by simp,λp=>by simp⟩
 have nn:∀t∈(Xgj f.h xs.length st).take k,0<=t/\t<xs.length/\t∈Xgj f.h xs.length st:=λt ht=>by
  have hm:=mem_of_mem_take ht
  have:=(Xyp hs hh hm).1
  exact⟨this.1,this.2,hm⟩
 rw[Xsa sg f st _ xs λt ht=>(nn t ht).1]
 have nd:(((Xgj f.h xs.length st).take k).map Int.toNat).Nodup:=by
  rw[List.Nodup,List.pairwise_map]
  refine List.Pairwise.imp_of_mem (R:=λa b=>a≠b) (λ{a b} ha hb hab e=>hab ?_) ((Xrb hs).sublist (List.take_sublist _ _))
  have:=(nn a ha).1
  have:=(nn b hb).1
  omega
 obtain⟨e1,e2⟩:=Xus (F:=λt ys=>Xk8 sg f st ys (t:Int)) (λp=>∃i:Nat,(p:Int)=f.h*st+(i:Int)*(2*st)) xs.length (λt ys zs hy hz ht hlt hp=>by
   unfold Xk8
   have hm:(t:Int)∈Xgj f.h xs.length st:=(Xia hs).mpr ⟨hn,by (clear hn;omega),ht⟩
   obtain⟨_,b1,b2,_⟩:=Xyp hs hh hm
   rw[hy,hz]
   have a1:=hp (nbL t xs.length st).toNat (.inr λz=>Xuj hs ht (.inl rfl) (by rw[show (((nbL (t:Int) xs.length st).toNat:Nat):Int)=nbL t xs.length st by omega]at z;exact z))
   have a2:=hp (nbR t xs.length st).toNat (.inr λz=>Xuj hs ht (.inr rfl) (by rw[show (((nbR (t:Int) xs.length st).toNat:Nat):Int)=nbR t xs.length st by omega]at z;exact z))
   rw[a1,a2,hp _ (.inl (by omega))]) _ xs rfl nd (λt ht=>by
   obtain⟨u,hu,rfl⟩:=mem_map.mp ht
   obtain⟨h1,h2,h3⟩:=nn u hu
   obtain⟨_,_,i,hi⟩:=(Xia hs).mp h3
   exact⟨⟨i,by omega⟩,by omega⟩)
 refine⟨e1,λp=>?_⟩
 rw[e2 p]
 have:p∈((Xgj f.h xs.length st).take k).map Int.toNat↔(p:Int)∈(Xgj f.h xs.length st).take k:=by
  constructor
  .intro z
   obtain⟨u,hu,e⟩:=mem_map.mp z
   have:=(nn u hu).1
   rw[show (p:Int)=u by (clear hs hn e1;omega)];exact hu
  .intro z
   exact mem_map.mpr ⟨_,z,by (clear hs hn e1;omega)⟩
 by_cases hp:(p:Int)∈(Xgj f.h xs.length st).take k
 .rw [if_pos hp,if_pos (this.mpr hp)]
 .rw [if_neg hp,if_neg λz=>hp (this.mp z)]
theorem Xum {sg:Int}{f:Lf}{st:Int}{xs:List Int}(hs:0<st)(hh:f.h=0∨f.h=1):
  (Xr1 sg f st xs).length=xs.length/\∀p:Nat,(Xr1 sg f st xs).getD p 0=if (p:Int)∈Xgj f.h xs.length st then Xk8 sg f st xs p else xs.getD p 0:=by
 have h:=Xyu (sg:=sg) (xs:=xs) hs hh (Xgj f.h xs.length st).length
 rw[take_length]at h
 exact h
def Xce (fs:List Lf)(st:Int)(xs:List Int):List Int:=fs.foldl (λxs f=>Xr1 1 f st xs) xs
theorem Xq7 {st:Int}(hs:0<st):∀{fs:List Lf} (xs:List Int),(∀f∈fs,f.h=0∨f.h=1)->(Xce fs st xs).length=xs.length
 | [],_,_=>rfl
 |f::fs,xs,h=>by
  unfold Xce
  rw[foldl_cons]
  exact (Xq7 hs (Xr1 1 f st xs) λg hg=>h g (mem_cons_of_mem _ hg)).trans (Xum hs (h f mem_cons_self)).1
section GL
variable {α β:Type}
theorem Xy8 (z:α)(xs:List α)(t p:Nat)(v:α)(h:t<xs.length):(xs.set t v).getD p z=if p=t then v else xs.getD p z:=by
 rw[getD_eq_getElem?_getD,getD_eq_getElem?_getD,getElem?_set]
 by_cases e:p=t
 .subst e
  rw[if_pos rfl,if_pos rfl,if_pos h];rfl
 .rw [if_neg (λz=>e z.symm),if_neg e]
theorem Xzo (z:α){xs ys:List α}(hl:xs.length=ys.length)(h:∀p:Nat,p<xs.length->xs.getD p z=ys.getD p z):xs=ys:=by
 refine List.ext_getElem hl λi h1 h2=>?_
 have:=h i h1
 rw[getD_eq_getElem?_getD,getD_eq_getElem?_getD,getElem?_eq_getElem h1,getElem?_eq_getElem h2]at this
 exact this
def Xnc (z:α)(G:α->α->α->α)(st:Int)(xs:List α)(t:Int):α:=G (xs.getD t.toNat z) (xs.getD (nbL t xs.length st).toNat z) (xs.getD (nbR t xs.length st).toNat z)
def Xzd (z:α)(G:α->α->α->α)(st:Int)(xs:List α)(t:Int):List α:=xs.set t.toNat (Xnc z G st xs t)
def Xth (z:α)(G:α->α->α->α)(h st:Int)(xs:List α):List α:=(Xgj h xs.length st).foldl (Xzd z G st) xs
theorem Xr6 {z:α}{G:α->α->α->α}{st:Int}:∀(ts:List Int) (xs:List α),(ts.foldl (Xzd z G st) xs).length=xs.length
 | [],_=>rfl
 |t::ts,xs=>by
  rw[foldl_cons,Xr6 ts]
  exact length_set
theorem Ymu {z:α}{G:α->α->α->α}{h st:Int}{xs:List α}(hs:0<st)(hh:h=0∨h=1):∀(k:Nat),
  (((Xgj h xs.length st).take k).foldl (Xzd z G st) xs).length=xs.length/\
  ∀p:Nat,(((Xgj h xs.length st).take k).foldl (Xzd z G st) xs).getD p z=if (p:Int)∈(Xgj h xs.length st).take k then Xnc z G st xs p else xs.getD p z
 | 0=>⟨by simp,λp=>by simp⟩
 |k + 1 => by
  obtain⟨l1,g1⟩:=Ymu (z:=z) (G:=G) (xs:=xs) hs hh k
  by_cases hk:k<(Xgj h xs.length st).length
  .rw [List.take_succ_eq_append_getElem hk,foldl_append]
   have htm:(Xgj h xs.length st)[k]∈Xgj h xs.length st:=getElem_mem hk
   generalize ht:(Xgj h xs.length st)[k]=t at htm ⊢
   obtain⟨b0,b1,b2,_⟩:=Xyp hs hh htm
   obtain⟨_,_,i,hi⟩:=(Xia hs).mp htm
   have o1:¬ nbL t xs.length st∈(Xgj h xs.length st).take k:=λz=>Xuj hs ⟨i,hi⟩ (.inl rfl) ((Xia hs).mp (mem_of_mem_take z)).2.2
   have o2:¬ nbR t xs.length st∈(Xgj h xs.length st).take k:=λz=>Xuj hs ⟨i,hi⟩ (.inr rfl) ((Xia hs).mp (mem_of_mem_take z)).2.2
   have o0:¬ t∈(Xgj h xs.length st).take k:=λz=>by
    obtain⟨q,hq,eq⟩:=List.mem_iff_getElem.mp z
    rw[length_take]at hq
    rw[List.getElem_take]at eq
    have hne:=List.pairwise_iff_getElem.mp (Xrb (h:=h) (n:=xs.length) hs) q k (by (clear l1 hi eq;omega)) hk (by (clear l1 hi eq;omega))
    exact hne (by rw[eq,ht])
   generalize ((Xgj h xs.length st).take k).foldl (Xzd z G st) xs=wc at l1 g1
   have e0:Xnc z G st wc t=Xnc z G st xs t:=by
    unfold Xnc
    rw[l1,g1,g1,g1,show ((t.toNat:Nat):Int)=t by (clear ht l1;omega),if_neg o0,show (((nbL t xs.length st).toNat:Nat):Int)=nbL t xs.length st by (clear ht hi l1;omega),if_neg o1,show (((nbR t xs.length st).toNat:Nat):Int)=nbR t xs.length st by (clear ht hi l1;omega),if_neg o2]
   refine⟨by rw[foldl_cons,List.foldl_nil];show (wc.set _ _).length=_;rw[length_set];exact l1,λp=>?_⟩
   show (wc.set t.toNat (Xnc z G st wc t)).getD p z=_
   rw[Xy8 z wc t.toNat p _ (by (clear ht;omega)),e0,g1 p]
   by_cases e:p=t.toNat
   .have e':(p:Int)=t:=by (clear ht l1;omega)
    rw[if_pos e,if_pos (by rw[e'];simp),e']
   .rw [if_neg e]
    have:((p:Int)∈(Xgj h xs.length st).take k++[t])↔(p:Int)∈(Xgj h xs.length st).take k:=by
     rw[mem_append,mem_singleton]
     constructor
     .rintro (q |q)
      .exact q
      .clear ht l1;omega
     .exact .inl
    by_cases hp:(p:Int)∈(Xgj h xs.length st).take k
    .rw [if_pos hp,if_pos (this.mpr hp)]
    .rw [if_neg hp,if_neg λq=>hp (this.mp q)]
  .rw [take_of_length_le (by omega)]
   rw[take_of_length_le (by omega)]at l1 g1
   exact⟨l1,g1⟩
theorem Yls {z:α}{G:α->α->α->α}{h st:Int}{xs:List α}(hs:0<st)(hh:h=0∨h=1):
  (Xth z G h st xs).length=xs.length/\∀p:Nat,(Xth z G h st xs).getD p z=if (p:Int)∈Xgj h xs.length st then Xnc z G st xs p else xs.getD p z:=by
 have q:=Ymu (z:=z) (G:=G) (xs:=xs) hs hh (Xgj h xs.length st).length
 rw[take_length]at q
 exact q
theorem Xzf {z:α}{G:α->α->α->α}{h st:Int}{xs:List α}:(Xth z G h st xs).length=xs.length:=Xr6 _ _
theorem Xr8 {z:α}{G:Lf->α->α->α->α}{st:Int}:∀(gs:List Lf) (xs:List α),(gs.foldl (λxs f=>Xth z (G f) f.h st xs) xs).length=xs.length
 | [],_=>rfl
 |g::gs,xs=>by rw[foldl_cons,Xr8 gs,Xzf]
end GL
theorem Xpd {lo hi c:Int}(hc:0<c)(i:Nat):i<Xht lo hi c↔lo+(i:Int)*c<hi:=by
 unfold Xht Builtin.Range.rangeSize
 rw[if_pos (show c > 0 from hc)]
 have h0:0<=(i:Int)*c:=mul_nonneg (by omega) (by omega)
 split
 .have e:=Int.le_ediv_iff_mul_le (a:=(i:Int)) (b:=hi-lo-1) hc
  have e0:0<=(hi-lo-1) / c:=ediv_nonneg (by omega) (by omega)
  constructor
  .intro z
   have:=e.mp (by omega)
   omega
  .intro z
   have:=e.mpr (by omega)
   omega
 .simp only[Int.toNat_zero]
  omega
theorem Xlj {a b:Nat}(h:∀i,i<a↔i<b):a=b:=by
 rcases Nat.lt_trichotomy a b with z |z |z
 .exact absurd ((h a).mpr z) (lt_irrefl _)
 .exact z
 .exact absurd ((h b).mp z) (lt_irrefl _)
section PT
variable {α:Type}
end PT
theorem Xyz {n:Nat}{i:Int}(h0:0<=i)(h:i<n):ixN n i=some i.toNat:=by
 unfold ixN
 rw[if_pos h0,if_pos h]
theorem Yg1 {α:Type}(z:α){g:α->D}{xs:List α}{i:Int}(h0:0<=i)(h:i<xs.length):atI (xs.map g) i=some (g (xs.getD i.toNat z)):=by
 have hi:i.toNat<xs.length:=by omega
 have e:=Xfa (xs:=xs.map g) (j:=i.toNat) (v:=g (xs.getD i.toNat z)) (by simp[hi])
 rwa[show ((i.toNat:Nat):Int)=i by omega]at e
theorem Xwl {α:Type}{xs:List α}{g:α->D}:List.map OV.val (xs.map λx=>OV.fz (g x))=xs.map g:=by
 rw[map_map];rfl
theorem Ye8 {h n st:Int}(hs:0<st):Xht (h*st) n (2*st)=Ydz h n st:=by
 unfold Xht Ydz Builtin.Range.rangeSize
 rw[if_pos (show 2*st > 0 by omega)]
def Yc2 (h n st:Int)(k:Nat):List Int:=if n<=st then [] else (List.range k).map λ(i:Nat)=>h*st+(i:Int)*(2*st)
def plD (n st:Int)(t:Int):D:=.tup [.int t,.int (nbL t n st),.int (nbR t n st)]
abbrev Xbw:Stmt:=top 55
theorem Xdp:FnScope ["half","many","stride","found","at","pair"] ["half","many","stride"] (Xac Xbw):=by walk_at "S"
def Xdn:DSp:=λds P=>match ds with
 | [.int h,.int n,.int st]=>((h=0∨h=1)/\0<st/\st<=64/\0<=n/\n<=100000)/\P (.nl ((Xgj h n st).map λt=>.fz (plD n st t)))
 |_=>False
theorem Xls {f:Addr}{fd:FuncData}(Df:DefAt K mg "lifted_places" Xbw f fd)(B:BltV mg)(KV:KitV K)(CV_Walk:ClsV K "Walk" ns_Walk)(Xil:Cal P w K mg base "neighbours" 1 ["at","many","stride"] (spV K 3 Xfc)):
  Cal P w K mg base "lifted_places" 2 ["half","many","stride"] (spV K 3 Xdn):=by
 refine CalV.of Df Xdp (by walk_at "b") rfl (λc A o s H E hr=>⟨_,_,(Xag (Xa6 (i:=3) Xdp.nd rfl (Or.inl rfl) (Xc0 Xad))
   (Xag (Xgr PassesOwn.never rfl (Xib (by rfl) (by exact B.range) (Xaa (Xaz Xjf (pv 0) (pv 2)) (Xaa (pv 1) (Xaa (Xaz Xjf Xal (pv 2)) Xad)))) (Xa4 (i:=4) Xdp.nd rfl (Or.inl rfl)) (Xag (Xa6 (i:=5) Xdp.nd rfl (Or.inl rfl) (Xa0 Xil (hr.mono (by decide)) (by rfl) (Xaa (pv 4) (Xaa (pv 1) (Xaa (pv 2) Xad)))))
   (Xaj (Xcb (Xbe Yfo (pv 5) Xx4 (Xbg _)) (Xaj (Xbz (Xec plainAttrs_list PySem.F.slot_list_append PySem.F.type_list_append Xcw (pv 3) (Xaa (Xcc (Xaa (pv 4) (Xaa (Xbc Xa9 (pv 5) Xal (λ_ _=>rfl)) (Xaa (Xbc Xa9 (pv 5) Xal (λ_ _=>rfl)) Xad)))) Xad)))) Xbb))))
   (Xaj (Xax (pv 3))))),
  (Xao (Xa2 (Xee Xcz))
   (Xao (Xgp (Xms (Xaf (Xaq (Xas Xey Xae Xae)) (Xaf Xae (Xaf (Xaq (Xas Xey (Xaq Xai) Xae)) Xam)))) Xa5 (Xao (Xa2 (Xbf (Xb8 (Xau (Xab Xah (Xab Xah (Xab Xah Xak)))))))
   (Xcg (Xbd (Xas Yfv Xae (Xaq Xxp))) (Xxh (Xbf (Xdj (Xab Xah (Xab (Xbs Xa8 Xah Xai) (Xab (Xbs Xa8 Xah Xai) Xak)))))) Xba)))
   Xmo)),?_⟩)
 intro ds Pr h
 unfold Xdn at h
 split at h
 .rename_i h' n st
  obtain⟨⟨hh,s0,s1,n0,n1⟩,k⟩:=h
  fin2
  refine⟨.inr ⟨by omega,by omega⟩,⟨by rcases hh with rfl |rfl<;>omega,by rcases hh with rfl |rfl<;>omega,by omega,by omega,by omega,by omega⟩,?_⟩
  rw[Ye8 s0]
  refine⟨λi δ=>i<=Ydz h' n st/\∃o1 o2,δ=[vI h',vI n,vI st,vL ((Yc2 h' n st i).map λt=>.fz (plD n st t)),o1,o2],⟨zero_le _,_,_,by unfold Yc2;split<;>rfl⟩,?_,?_⟩
  .rintro i d δ hd ⟨hi',o1,o2,rfl⟩
   obtain⟨hi,rfl⟩:=Xg8 hd
   have hlt:=(Xuv (h:=h') (n:=n) s0 i).mp hi
   have hcnt:Ydz h' n st<=100001:=by
    rcases lt_or_ge 100001 (Ydz h' n st) with z |z
    .have:=(Xuv (h:=h') (n:=n) s0 100001).mp z
     have h0:0<=h'*st:=by rcases hh with rfl |rfl<;>omega
     omega
    .exact z
   fin2
   unfold Xfc
   generalize ht:h'*st+(i:Int)*(2*st)=t at *
   try dsimp only
   split
   .rename_i hn
    fin2
    have hns:n<=st:=by
     rcases Int.lt_or_le st n with z |z
     .exact absurd hn (Xyp s0 hh ((Xia s0).mpr ⟨by omega,hlt,i,ht.symm⟩)).2.2.2
     .exact z
    have e:∀j,Yc2 h' n st j=[]:=λj=>if_pos hns
    rw[e,e]
    exact⟨hi,_,_,rfl⟩
   .rename_i hn
    fin2
    have hns:¬ n<=st:=λz=>hn (by
     have h0:0<=(i:Int)*(2*st):=mul_nonneg (by omega) (by omega)
     have h1:0<=h'*st:=by rcases hh with rfl |rfl<;>omega
     constructor<;>omega)
    have el:(Yc2 h' n st i).length=i:=by unfold Yc2;rw[if_neg hns];simp
    have e:Yc2 h' n st (i+1)=Yc2 h' n st i++[t]:=by
     unfold Yc2
     rw[if_neg hns,if_neg hns,range_succ,map_append,<- ht]
     rfl
    rw[e,map_append]
    exact⟨by omega,hi,_,_,rfl⟩
  .rintro δ ⟨_,o1,o2,rfl⟩
   fin2
   rw[Xfu]
   exact k
 .exact h.elim
def lfD (f:Lf):D:=.tup [.int f.h,.int f.l,.int f.r,.int f.a,.int f.s]
abbrev Xmn:Stmt:=top 56
theorem Yek:FnScope ["lift","left","right"] ["lift","left","right"] (Xac Xmn):=by walk_at "S"
def Xw7:DSp:=λds P=>∃(f:Lf) (x y:Int),ds=[lfD f,.int x,.int y]/\f.Ok/\P (.fz (.int (Xtc f x y)))
theorem Yft {f:Addr}{fd:FuncData}(Df:DefAt K mg "gain" Xmn f fd)(B:BltV mg)(KV:KitV K)(CV_Walk:ClsV K "Walk" ns_Walk)(Xte:∃t,mg "SHIFT"=some (.int 4 t))(Ygo:∃t,mg "ADD"=some (.int 3 t))(Xza:∃t,mg "LEFT"=some (.int 1 t))(Xtf:∃t,mg "RIGHT"=some (.int 2 t)):
  Cal P w K mg base "gain" 1 ["lift","left","right"] (spV K 3 Xw7):=by
 refine CalV.of Df Yek (by walk_at "b") rfl (λc A o s H E hr=>⟨_,_,(Xaj (Xax (Xaz Xyc (Xaz Xef (Xaz Xef (Xaz Xjf (Xbc Xa9 (pv 0) (Xat (by rfl) Xza) (λ_ _=>rfl)) (pv 1)) (Xaz Xjf (Xbc Xa9 (pv 0) (Xat (by rfl) Xtf) (λ_ _=>rfl)) (pv 2))) (Xbc Xa9 (pv 0) (Xat (by rfl) Ygo) (λ_ _=>rfl))) (Xbc Xa9 (pv 0) (Xat (by rfl) Xte) (λ_ _=>rfl))))),
  (Xa1 (Xbf (Xas Xey (Xaq (Xas Xc1 (Xaq (Xas Xc1 (Xaq (Xas Xey (Xca (OpF.b Xa8) Xae (Xaq Xai)) Xae)) (Xaq (Xas Xey (Xca (OpF.b Xa8) Xae (Xaq Xai)) Xae)))) (Xca (OpF.b Xa8) Xae (Xaq Xai)))) (Xca (OpF.b Xa8) Xae (Xaq Xai))))),?_⟩)
 rintro ds Pr ⟨f,x,y,rfl,ok,k⟩
 have h1:=ok.l
 have h2:=ok.r
 have h3:=ok.s
 simp only[lfD]
 fin2
 exact⟨Ymr (by omega) (by omega),Ymr (by omega) (by omega),h3.1,k⟩
def Xll (fs:List Lf):D:=.tup (fs.map lfD)
def iL (xs:List Int):D:=.lst (xs.map D.int)
def iO (xs:List Int):OV:=.nl (xs.map λx=>.fz (.int x))
theorem Xvj {st:Int}{xs:List Int}{fs:List Lf}{i:Nat}{f:Lf}(h:fs[i]?=some f):Xce (fs.take (i+1)) st xs=Xr1 1 f st (Xce (fs.take i) st xs):=by
 obtain⟨hi,e⟩:=List.getElem?_eq_some_iff.mp h
 rw[List.take_succ_eq_append_getElem hi,e]
 unfold Xce
 rw[foldl_append]
 rfl
abbrev Xg1:Stmt:=top 57
theorem Xgn:FnScope ["row","ladder","stride","things","lift","at","left","right"] ["row","ladder","stride"] (Xac Xg1):=by walk_at "S"
def Xfo:DSp:=λds P=>∃(xs:List Int) (fs:List Lf) (st:Int),ds=[iL xs,Xll fs,.int st]/\((∀f∈fs,f.Ok)/\0<st/\st<=64/\xs.length<=100000)/\P (iO (Xce fs st xs))
theorem Xyf {f:Addr}{fd:FuncData}(Df:DefAt K mg "raised" Xg1 f fd)(B:BltV mg)(KV:KitV K)(CV_Walk:ClsV K "Walk" ns_Walk)(Xzc:∃t,mg "HALF"=some (.int 0 t))(Xfz:Cal P w K mg base "lifted_places" 2 ["half","many","stride"] (spV K 3 Xdn))(Xz6:Cal P w K mg base "gain" 1 ["lift","left","right"] (spV K 3 Xw7)):
  Cal P w K mg base "raised" 3 ["row","ladder","stride"] (spV K 3 Xfo):=by
 refine CalV.of Df Xgn (by walk_at "b") rfl (λc A o s H E hr=>⟨_,_,(Xag (Xa6 (i:=3) Xgn.nd rfl (Or.inl rfl) (Xdl Xwc (by rfl) B.list PyProof.Rows.boot_list (Xaa (pv 0) Xad)))
   (Xag (Xgr PassesOwn.never rfl (Xli (pv 1)) (Xa4 (i:=4) Xgn.nd rfl (Or.inl rfl)) (Xaj (Xgr PassesOwn.never rfl (Xgf (Xa0 Xfz (hr.mono (by decide)) (by rfl) (Xaa (Xbc Xa9 (pv 4) (Xat (by rfl) Xzc) (λ_ _=>rfl)) (Xaa (Xap Xaw (by rfl) B.len boot_len (Xaa (pv 0) Xad)) (Xaa (pv 2) Xad))))) (Xuh (n:=3) rfl (Xfe (Xa4 (i:=5) Xgn.nd rfl (Or.inl rfl)) (Xfe (Xa4 (i:=6) Xgn.nd rfl (Or.inl rfl)) (Xfe (Xa4 (i:=7) Xgn.nd rfl (Or.inl rfl)) Xpg)))) (Xaj (Yfe (pv 3) (pv 5) Xy7 (Xa0 Xz6 (hr.mono (by decide)) (by rfl) (Xaa (pv 4) (Xaa (Xbc Xbt (pv 3) (pv 6) (λ_ _=>rfl)) (Xaa (Xbc Xbt (pv 3) (pv 7) (λ_ _=>rfl)) Xad)))) Ydl Xly)))))
   (Xaj (Xax (pv 3))))),
  (Xao (Xa2 (Xxk Ygy (Xab Xah Xak)))
   (Xao (Xgp (Xlg Xah) Xa5 (Xgp (Xg5 (Xb8 (Xau (Xab (Xbs Xa8 Xah Xai) (Xab (Xbh Xdb (Xaf Xae Xam)) (Xab Xah Xak)))))) (Xt6 (Xfd Xa5 (Xfd Xa5 (Xfd Xa5 Xpb)))) (Yeo Xae (Xaq (Xb8 (Xj7 (Xaf Xae (Xaf (Xca (OpF.b Xdh) Xae Xae) (Xaf (Xca (OpF.b Xdh) Xae Xae) Xam)))))))))
   Xmo)),?_⟩)
 rintro ds Pr ⟨xs,fs,st,rfl,⟨oks,s0,s1,hx⟩,k⟩
 simp only[iL,Xll]
 fin2
 refine⟨λi δ=>∃o1 o2 o3 o4,δ=[vD (iL xs),vD (Xll fs),vI st,some (.own (iO (Xce (fs.take i) st xs))),o1,o2,o3,o4],⟨none,none,none,none,by simp[iL,Xll,iO,Xce]⟩,?_,?_⟩
 .rintro i d δ hd ⟨o1,o2,o3,o4,rfl⟩
  obtain⟨f,hf,rfl⟩:=Ydd hd
  have okf:=oks f (mem_of_getElem? hf)
  have hlen:(Xce (fs.take i) st xs).length=xs.length:=Xq7 s0 xs λg hg=>(oks g (mem_of_mem_take hg)).h
  dsimp only
  rw[Xvj hf]
  generalize hc:Xce (fs.take i) st xs=cur at hlen
  simp only[iL,Xll,iO,lfD]
  fin2
  simp only[Xdn]
  refine⟨⟨okf.h,s0,s1,by omega,by omega⟩,?_⟩
  fin2
  simp only[map_map,Function.comp_def,OV.val]
  rw[<- hlen]
  refine⟨λj δ=>∃o2 o3 o4,δ=[vD (iL xs),vD (Xll fs),vI st,some (.own (iO (((Xgj f.h cur.length st).take j).foldl (Xqa 1 f st) cur))),vD (lfD f),o2,o3,o4],⟨_,_,_,rfl⟩,?_,?_⟩
  .rintro j e δ he ⟨p2,p3,p4,rfl⟩
   obtain⟨t,ht,rfl⟩:=Ydd he
   have htm:t∈Xgj f.h cur.length st:=mem_of_getElem? ht
   obtain⟨hjt,htt⟩:=List.getElem?_eq_some_iff.mp ht
   obtain⟨b0,b1,b2,_⟩:=Xyp s0 okf.h htm
   have hla:=(Xyu (sg:=1) (f:=f) (st:=st) (xs:=cur) s0 okf.h j).1
   have etake:(Xgj f.h cur.length st).take (j+1)=(Xgj f.h cur.length st).take j++[t]:=by
    rw[List.take_succ_eq_append_getElem hjt,htt]
   dsimp only
   rw[etake,foldl_append]
   generalize hw:((Xgj f.h cur.length st).take j).foldl (Xqa 1 f st) cur=wcur at hla
   simp only[iL,Xll,iO,plD,lfD]
   fin2
   refine⟨b0.1,_,Ygm b0.1 (by omega),_,Xho b1.1 (by omega),_,Xho b2.1 (by omega),f,_,_,rfl,okf,?_⟩
   fin2
   simp only[foldl_cons,List.foldl_nil,Xqa,Xk8,hla,one_mul]
   exact⟨_,_,_,rfl⟩
  .rintro δ ⟨p2,p3,p4,rfl⟩
   rw[length_map,take_length]
   exact⟨_,_,_,_,rfl⟩
 .rintro δ ⟨o1,o2,o3,o4,rfl⟩
  fin2
  rw[take_length]
  exact k
abbrev Xwe:DTb:=[("raised",Xfo)]
section SH
variable {α β:Type}
def tab (n:Nat)(f:Nat->β):List β:=(List.range n).map f
theorem Xbr {n:Nat}{f:Nat->β}:(tab n f).length=n:=by simp[tab]
theorem Xl7 {n i:Nat}{f:Nat->β}(h:i<n):(tab n f)[i]?=some (f i):=by simp[tab,h]
theorem Xo1 {n i:Nat}{f:Nat->β}{d:β}(h:i<n):(tab n f).getD i d=f i:=by simp[tab,h]
theorem Xhx {n:Nat}{f g:Nat->β}(h:∀i,i<n->f i=g i):tab n f=tab n g:=map_congr_left λi hi=>h i (mem_range.mp hi)
theorem Xhw {γ:Type}{n:Nat}{f:Nat->β}{g:β->γ}:(tab n f).map g=tab n λi=>g (f i):=by simp[tab,Function.comp_def]
theorem Yal (z:α)(xs:List α):tab xs.length (λi=>xs.getD i z)=xs:=by
 refine Xzo z (by rw[Xbr]) λp hp=>?_
 rw[Xbr]at hp
 rw[Xo1 hp]
theorem Xws (z:α){n:Nat}{xs:List α}(h:xs.length=n):tab n (λi=>xs.getD i z)=xs:=by subst h;exact Yal z xs
theorem Xsq {n i:Nat}{f:Nat->β}{v:β}:(tab n f).set i v=tab n λj=>if j=i then v else f j:=by
 refine ext_getElem? λj=>?_
 rw[getElem?_set,Xbr]
 by_cases hj:j<n
 .rw [Xl7 hj,Xl7 hj]
  by_cases e:i=j
  .subst e;simp[hj]
  .rw [if_neg e,if_neg λz=>e z.symm]
 .have e1:(tab n f)[j]?=none:=getElem?_eq_none (by rw[Xbr];omega)
  have e2:(tab n λj=>if j=i then v else f j)[j]?=none:=getElem?_eq_none (by rw[Xbr];omega)
  rw[e1,e2]
  split
  .rw [if_neg (by omega)]
  .rfl
theorem Xk6 {n:Nat}{f:Nat->D}{i:Int}(h0:0<=i)(h:i<n):atI (tab n f) i=some (f i.toNat):=by
 have e:=Xfa (xs:=tab n f) (j:=i.toNat) (Xl7 (show i.toNat<n by omega))
 rwa[show ((i.toNat:Nat):Int)=i by omega]at e
def Yg9 (z:α)(op:List α->List α)(w st:Nat)(e:Nat->Nat->α):Nat->Nat->α:=λi j=>if i%st=0 then (op (tab w (e i))).getD j z else e i j
def Yhb (z:α)(op:List α->List α)(h st:Nat)(e:Nat->Nat->α):Nat->Nat->α:=λi j=>if j%st=0 then (op (tab h λi=>e i j)).getD i z else e i j
def eqS (h w:Nat)(e e':Nat->Nat->α):Prop:=∀i j,i<h->j<w->e i j=e' i j
def Ybr (z:α)(op:Nat->List α->List α)(h w:Nat):Nat->(Nat->Nat->α)->Nat->Nat->α
 | 0,e=>e
 |n+1,e=>Yhb z (op n) h (2^n) (Yg9 z (op n) w (2^n) (Ybr z op h w n e))
end SH
def shT {α:Type}(g:α->D)(h w:Nat)(e:Nat->Nat->α):List OV:=tab h λi=>.nl (tab w λj=>.fz (g (e i j)))
def shV {α:Type}(g:α->D)(h w:Nat)(e:Nat->Nat->α):List D:=tab h λi=>.lst (tab w λj=>g (e i j))
theorem Xmf {α:Type}{g:α->D}{h w:Nat}{e:Nat->Nat->α}:(shT g h w e).map OV.val=shV g h w e:=by
 unfold shT shV
 rw[Xhw]
 refine Xhx λi _=>?_
 simp only[OV.val,OV.vals_eq,Xhw]
theorem Xsr {α:Type}{g:α->D}{h w:Nat}{e e':Nat->Nat->α}(q:eqS h w e e'):shT g h w e=shT g h w e':=by
 unfold shT
 exact Xhx λi hi=>by rw[Xhx λj hj=>by rw[q i j hi hj]]
structure OpOk (α:Type) (z:α) (g:α->D) (op:List α->List α) (n:Nat) (st:Nat) (lad:D) (sp:DSp):Prop where
 run:∀r:List α,r.length=n->∀Q:OV->Prop,Q (.nl ((op r).map λx=>.fz (g x)))->sp [.lst (r.map g),lad,.int st] Q
 len:∀r:List α,r.length=n->(op r).length=n
 off:∀(r:List α) (i:Nat),r.length=n->i<n->i%st≠0->(op r).getD i z=r.getD i z
 lf:∀x,(g x).lf=true
abbrev Xcr:Stmt:=top 62
theorem Xjd:FnScope ["sheet","doing","ladder","stride","i"] ["sheet","doing","ladder","stride"] (Xac Xcr):=by walk_at "S"
def Xi9:DIO:=λts ds P=>∃(α:Type) (z:α) (g:α->D) (op:List α->List α) (x:Str) (sp:DSp) (lad:D) (h w st:Nat) (e:Nat->Nat->α),ts=shT g h w e/\ds=[.fn x,lad,.int st]/\(x,sp)∈Xwe/\OpOk α z g op w st lad sp/\0<st/\st<=64/\h<=1000/\P (shT g h w (Yg9 z op w st e))
theorem Yi8 {α:Type}{g:α->D}(hg:∀x,(g x).lf=true)(xs:List α):OV.lf (.nl (xs.map λx=>.fz (g x)))=true:=by
 simp[OV.lf,OV.lfs_eq,hg]
theorem Xl8 {h st:Nat}(s0:0<st){n:Nat}(hn:n<Xht 0 h st):n*st<h:=by
 have:=(Xpd (lo:=0) (hi:=h) (c:=st) (by omega) n).mp hn
 rw[zero_add]at this
 exact_mod_cast this
theorem Xo3 {h st i:Nat}(s0:0<st)(hi:i<h)(hm:i%st=0):i<Xht 0 h st*st:=by
 rcases lt_or_ge i (Xht 0 h st*st) with q |q
 .exact q
 .exfalso
  have e:i=i / st*st:=by
   have:=Nat.div_add_mod i st
   rw[hm,add_zero,Nat.mul_comm]at this
   exact this.symm
  have h1:Xht 0 h st<=i / st:=by
   rw[Nat.le_div_iff_mul_le s0];exact q
  have h2:¬ (Xht 0 h st<Xht 0 h st):=lt_irrefl _
  apply h2
  rw[Xpd (by omega)]
  have h3:Xht 0 h st*st<=i / st*st:=mul_le_mul_right _ h1
  have h4:Xht 0 h st*st<h:=by omega
  have:((Xht 0 h st*st:Nat):Int)<h:=by exact_mod_cast h4
  rw[zero_add]
  exact_mod_cast this
theorem Ye9 {h st:Nat}(s0:0<st):Xht 0 h st<=h:=by
 rcases lt_or_ge h (Xht 0 h st) with q |q
 .have:=Xl8 s0 q
  have h2:h*1<=h*st:=Nat.mul_le_mul_left _ s0
  omega
 .exact q
theorem Xn3 {f:Addr}{fd:FuncData}(Df:DefAt K mg "change_rows" Xcr f fd)(B:BltV mg)(KV:KitV K)(CV_Walk:ClsV K "Walk" ns_Walk)(Xdq:Xu5 K mg "raised")(Xiv:Cal P w K mg base "raised" 3 ["row","ladder","stride"] (spV K 3 Xfo)):
  Cal P w K mg base "change_rows" 4 ["sheet","doing","ladder","stride"] (Yee K 4 Xi9):=by
 refine CalIO.of Df Xjd (by walk_at "b") rfl (λc A o s H E hr=>⟨_,_,(Xaj (Xgr PassesOwn.never rfl (Xib (by rfl) (by exact B.range) (Xaa Xal (Xaa (Xap Xaw (by rfl) B.len boot_len (Xaa (pv 0) Xad)) (Xaa (pv 3) Xad)))) (Xa4 (i:=4) Xjd.nd rfl (Or.inl rfl)) (Xaj (Xue (Xx6 (pv 1) (Xwr (K:=K) (n:=3) (tb:=Xwe) (k:=3) (by simp only[Xwe,forall_mem_cons];exact⟨⟨_,Xiv.mono (by decide)⟩,λ_ h=>by cases h⟩)) (hr.mono (by decide)) (Xaa (Xbc Xbt (pv 0) (pv 4) (λ_ _=>rfl)) (Xaa (pv 2) (Xaa (pv 3) Xad)))) (Xx2 (pv 0) (pv 4) Xly))))),
  (Xgp (Xms (Xaf (Xaq Xai) (Xaf (Xaq (Xbh Xdb (Xaf Xae Xam))) (Xaf Xae Xam)))) Xa5 (Ycr (i:=0) Xyt (Ycs (Xxl (tb:=Xwe) (by simp only[Xwe,forall_mem_cons];exact⟨Xdq,λ_ h=>by cases h⟩) (Xaf (Xca (OpF.b Xdh) Xae Xae) (Xaf Xae (Xaf Xae Xam)))) Xae))),?_⟩)
 rintro a ts ds Pr ⟨α,z,g,op,x,sp,lad,h,w,st,e,rfl,rfl,hm,ok,s0,s1,hh,k⟩
 fin2
 refine⟨⟨by omega,by rw[shT,Xbr];omega,by omega,by omega⟩,?_⟩
 rw[show ((shT g h w e).length:Int)=(h:Int) by rw[shT,Xbr]]
 refine⟨λn δ=>n<=Xht 0 h st/\∃o,δ=[some (.own (.rt a (shT g h w λi j=>if i%st=0/\i<n*st then (op (tab w (e i))).getD j z else e i j))),vD (.fn x),vD lad,vI st,o],⟨zero_le _,none,?_⟩,?_,?_⟩
 .simp only[zero_mul,Nat.not_lt_zero,and_false,if_false]
 .rintro n d δ hd ⟨hn,o,rfl⟩
  obtain⟨hi,rfl⟩:=Xg8 hd
  have hlt:=Xl8 s0 hi
  have hnat:(0+(n:Int)*(st:Int))=((n*st:Nat):Int):=by rw[zero_add];exact_mod_cast rfl
  rw[hnat]
  fin2
  refine⟨sp,hm,?_⟩
  rw[Xmf]
  refine⟨_,Xk6 (by omega) (by exact_mod_cast hlt),?_⟩
  rw[show ((n*st:Nat):Int).toNat=n*st by omega]
  have er:(D.lst (tab w λj=>g (if (n*st)%st=0/\n*st<n*st then (op (tab w (e (n*st)))).getD j z else e (n*st) j))) = .lst ((tab w (e (n*st))).map g):=by
   rw[Xhw]
   simp only[lt_irrefl,and_false,if_false]
  rw[er]
  try fin2
  refine ok.run _ Xbr _ ?_
  refine⟨Yi8 ok.lf _,n*st,?_,?_⟩
  .rw [shT,Xbr]
   have:=Xyz (n:=h) (i:=((n*st:Nat):Int)) (by omega) (by exact_mod_cast hlt)
   rwa[show ((n*st:Nat):Int).toNat=n*st by omega]at this
  .try fin2
   refine⟨hi,some (.own (.fz (.int ((n*st:Nat):Int)))),?_⟩
   have es : (shT g h w λi j=>if i%st=0/\i<n*st then (op (tab w (e i))).getD j z else e i j).set (n*st) (.nl ((op (tab w (e (n*st)))).map λx=>.fz (g x)))=shT g h w λi j=>if i%st=0/\i<(n+1)*st then (op (tab w (e i))).getD j z else e i j:=by
    unfold shT
    rw[Xsq]
    refine Xhx λi hi'=>?_
    by_cases q:i=n*st
    .subst q
     rw[if_pos rfl]
     have e1:∀j,(if (n*st)%st=0/\n*st<(n+1)*st then (op (tab w (e (n*st)))).getD j z else e (n*st) j)=(op (tab w (e (n*st)))).getD j z:=λj=>if_pos ⟨mul_mod_left _ _,by rw[Nat.add_mul];omega⟩
     simp only[e1]
     congr 1
     rw[<- Xhw (f:=λj=>(op (tab w (e (n*st)))).getD j z) (g:=λx=>OV.fz (g x)),Xws z (ok.len _ Xbr)]
    .rw [if_neg q]
     congr 1
     refine Xhx λj _=>?_
     have:(i%st=0/\i<n*st)↔(i%st=0/\i<(n+1)*st):=by
      constructor
      .rintro ⟨q1,q2⟩
       exact⟨q1,by rw[Nat.add_mul];omega⟩
      .rintro ⟨q1,q2⟩
       refine⟨q1,?_⟩
       have e2:i=i / st*st:=by
        have:=Nat.div_add_mod i st
        rw[q1,add_zero,Nat.mul_comm]at this
        exact this.symm
       have e3:i / st<n+1:=by rw[Nat.div_lt_iff_lt_mul s0];exact q2
       rcases lt_or_ge (i / st) n with y |y
       .have:(i / st+1)*st<=n*st:=mul_le_mul_right _ y
        rw[Nat.add_mul]at this
        omega
       .have:i / st=n:=by omega
        rw[this]at e2
        exact absurd e2 q
     dsimp only
     by_cases y:i%st=0/\i<n*st
     .rw [if_pos y,if_pos (this.mp y)]
     .rw [if_neg y,if_neg λy'=>y (this.mpr y')]
   rw[es]
 .rintro δ ⟨_,o,rfl⟩
  rw[Xfu]
  refine⟨_,rfl,?_⟩
  rw[Xsr (e':=Yg9 z op w st e)]
  .exact k
  .intro i j hi hj
   show (if i%st=0/\i<Xht 0 h st*st then _ else _)=if i%st=0 then _ else _
   by_cases q:i%st=0
   .rw [if_pos ⟨q,Xo3 s0 hi q⟩,if_pos q]
   .rw [if_neg λy=>q y.1,if_neg q]
abbrev Xbn:Stmt:=top 63
theorem Xdc:FnScope ["sheet","doing","ladder","stride","j","column","i"] ["sheet","doing","ladder","stride"] (Xac Xbn):=by walk_at "S"
def Xgm:DIO:=λts ds P=>∃(α:Type) (z:α) (g:α->D) (op:List α->List α) (x:Str) (sp:DSp) (lad:D) (h w st:Nat) (e:Nat->Nat->α),ts=shT g h w e/\ds=[.fn x,lad,.int st]/\(x,sp)∈Xwe/\OpOk α z g op h st lad sp/\0<st/\st<=64/\0<h/\h<=1000/\w<=1000/\P (shT g h w (Yhb z op h st e))
theorem Xm5 {i st n:Nat}(s0:0<st)(q1:i%st=0)(hne:i≠n*st):i<n*st↔i<(n+1)*st:=by
 constructor
 .intro y
  rw[Nat.add_mul];omega
 .intro q2
  have e2:i=i / st*st:=by
   have:=Nat.div_add_mod i st
   rw[q1,add_zero,Nat.mul_comm]at this
   exact this.symm
  have e3:i / st<n+1:=by rw[Nat.div_lt_iff_lt_mul s0];exact q2
  rcases lt_or_ge (i / st) n with y |y
  .have:(i / st+1)*st<=n*st:=mul_le_mul_right _ y
   rw[Nat.add_mul]at this
   omega
  .have:i / st=n:=by omega
   rw[this]at e2
   exact absurd e2 hne
theorem Xkw {f:Addr}{fd:FuncData}(Df:DefAt K mg "change_columns" Xbn f fd)(B:BltV mg)(KV:KitV K)(CV_Walk:ClsV K "Walk" ns_Walk)(Xdq:Xu5 K mg "raised")(Xiv:Cal P w K mg base "raised" 3 ["row","ladder","stride"] (spV K 3 Xfo)):
  Cal P w K mg base "change_columns" 4 ["sheet","doing","ladder","stride"] (Yee K 4 Xgm):=by
 refine CalIO.of Df Xdc (by walk_at "b") rfl (λc A o s H E hr=>⟨_,_,(Xaj (Xgr PassesOwn.never rfl (Xib (by rfl) (by exact B.range) (Xaa Xal (Xaa (Xap Xaw (by rfl) B.len boot_len (Xaa (Xbc Xbt (pv 0) Xal (λ_ _=>rfl)) Xad)) (Xaa (pv 3) Xad)))) (Xa4 (i:=4) Xdc.nd rfl (Or.inr rfl)) (Xag (Xa6 (i:=5) Xdc.nd rfl (Or.inl rfl) (Xx6 (pv 1) (Xwr (K:=K) (n:=3) (tb:=Xwe) (k:=3) (by simp only[Xwe,forall_mem_cons];exact⟨⟨_,Xiv.mono (by decide)⟩,λ_ h=>by cases h⟩)) (hr.mono (by decide)) (Xaa (Xda rfl (Xgf (pv 0)) (show BlkScope (Xac Xbn) _ from⟨rfl,by decide +kernel,by decide +kernel,by decide +kernel⟩) (N:=["row","j"]) (ix:=[none,some 4]) (show Xb2 _ _ _ _ from⟨⟨rfl,rfl,.inl rfl⟩,trivial⟩) (λ_ _ _=>(Xa4 (i:=0) (show List.Nodup (["row","j"]:List Str) by decide +kernel) rfl (Or.inl rfl))) (λ_ _ _=>(Xbc Xbt (pv 0) (pv 1) (λ_ _=>rfl)))) (Xaa (pv 2) (Xaa (pv 3) Xad)))))
   (Xaj (Xgr PassesOwn.never rfl (Xib (by rfl) (by exact B.range) (Xaa Xal (Xaa (Xap Xaw (by rfl) B.len boot_len (Xaa (pv 0) Xad)) (Xaa (pv 3) Xad)))) (Xa4 (i:=6) Xdc.nd rfl (Or.inl rfl)) (Xaj (Xue (Xbc Xbt (pv 5) (pv 6) (λ_ _=>rfl)) (Xx2 (Xbc Xbt (pv 0) (pv 6) (λ_ _=>rfl)) (pv 4) Xly)))))))),
  (Xgp (Xms (Xaf (Xaq Xai) (Xaf (Xaq (Xbh Xdb (Xaf (Xca (OpF.b Xdh) Xae (Xaq Xai)) Xam))) (Xaf Xae Xam)))) Xa5 (Xao (Xa2 (Xbf (Xb8 (Yau (tb:=Xwe) (by simp only[Xwe,forall_mem_cons];exact⟨Xdq,λ_ h=>by cases h⟩) (Xab (Xb8 (Yat Xae (Xbf (Yew (Xca (OpF.b Xdh) Xae Xae))))) (Xab Xah (Xab Xah Xak)))))))
   (Xgp (Xms (Xaf (Xaq Xai) (Xaf (Xaq (Xbh Xdb (Xaf Xae Xam))) (Xaf Xae Xam)))) Xa5 (Ycr (i:=0) Xyt (Yem (Xbs Xdh Xah Xah) Xae Xae))))),?_⟩)
 rintro a ts ds Pr ⟨α,z,g,op,x,sp,lad,h,w,st,e,rfl,rfl,hm,ok,s0,s1,h0,hh,hw,k⟩
 fin2
 rw[Xmf]
 refine⟨_,Xk6 (by omega) (by omega),?_⟩
 fin2
 rw[Xbr]
 refine⟨⟨by omega,by omega,by omega,by omega⟩,?_⟩
 refine⟨λn δ=>n<=Xht 0 w st/\∃o1 o2 o3,δ=[some (.own (.rt a (shT g h w λi j=>if j%st=0/\j<n*st then (op (tab h λi=>e i j)).getD i z else e i j))),vD (.fn x),vD lad,vI st,o1,o2,o3],⟨zero_le _,none,none,none,?_⟩,?_,?_⟩
 .simp only[zero_mul,Nat.not_lt_zero,and_false,if_false]
 .rintro n d δ hd ⟨hn,o1,o2,o3,rfl⟩
  obtain⟨hi,rfl⟩:=Xg8 hd
  have hlt:=Xl8 s0 hi
  have hnat:(0+(n:Int)*(st:Int))=((n*st:Nat):Int):=by rw[zero_add];exact_mod_cast rfl
  rw[hnat]
  generalize hj:n*st=j at hlt
  fin2
  refine⟨sp,hm,?_⟩
  rw[Xmf]
  refine Xix.mapB (List.range h) _ (λi=>.fz (g (e i j))) (by rw[length_range];omega) (λi hi' Q q=>?_) ?_
  .have hi'':=mem_range.mp hi'
   fin2
   refine⟨_,Xk6 (by omega) (by exact_mod_cast hlt),?_⟩
   rw[show ((j:Nat):Int).toNat=j by omega,if_neg λy=>by omega]
   exact⟨ok.lf _,q⟩
  .have e1 : (List.range h).map (λi=>OV.fz (g (e i j)))=(tab h λi=>e i j).map λx=>OV.fz (g x):=by rw[Xhw];rfl
   rw[e1]
   fin2
   simp only[Xwl]
   refine ok.run _ Xbr _ ?_
   generalize hcc:tab h (λi=>e i j)=c
   have hcl:c.length=h:=by rw[<- hcc];exact Xbr
   have hol:=ok.len c hcl
   fin2
   simp only[Xwl]
   refine⟨⟨by omega,by rw[shT,Xbr];omega,by omega,by omega⟩,?_⟩
   rw[show ((shT g h w λi j'=>if j'%st=0/\j'<j then (op (tab h λi=>e i j')).getD i z else e i j').length:Int)=(h:Int) by rw[shT,Xbr]]
   refine⟨λm δ=>∃o3,δ=[some (.own (.rt a (shT g h w λi j'=>if j'=j/\i%st=0/\i<m*st then (op c).getD i z else if j'%st=0/\j'<j then (op (tab h λi=>e i j')).getD i z else e i j'))),vD (.fn x),vD lad,vI st,vI j,vD (.lst ((op c).map g)),o3],⟨o3,?_⟩,?_,?_⟩
   .simp only[zero_mul,Nat.not_lt_zero,and_false,if_false]
   .rintro m d δ hd' ⟨p3,rfl⟩
    obtain⟨hm',rfl⟩:=Xg8 hd'
    have hlt':=Xl8 s0 hm'
    have hnat':(0+(m:Int)*(st:Int))=((m*st:Nat):Int):=by rw[zero_add];exact_mod_cast rfl
    rw[hnat']
    generalize hi0:m*st=i at hlt'
    fin2
    refine⟨_,Yg1 z (by omega) (by rw[hol];exact_mod_cast hlt'),?_⟩
    rw[show ((i:Nat):Int).toNat=i by omega]
    refine⟨i,_,?_,Xl7 hlt',j,?_,?_⟩
    .rw [shT,Xbr]
     have:=Xyz (n:=h) (i:=((i:Nat):Int)) (by omega) (by exact_mod_cast hlt')
     rwa[show ((i:Nat):Int).toNat=i by omega]at this
    .rw [Xbr]
     have:=Xyz (n:=w) (i:=((j:Nat):Int)) (by omega) (by exact_mod_cast hlt)
     rwa[show ((j:Nat):Int).toNat=j by omega]at this
    .try fin2
     refine⟨vI ((i:Nat):Int),?_⟩
     have es:(shT g h w λi j'=>if j'=j/\i%st=0/\i<m*st then (op c).getD i z else if j'%st=0/\j'<j then (op (tab h λi=>e i j')).getD i z else e i j').set i (.nl ((tab w λj'=>OV.fz (g (if j'=j/\i%st=0/\i<m*st then (op c).getD i z else if j'%st=0/\j'<j then (op (tab h λi=>e i j')).getD i z else e i j'))).set j (.fz (g ((op c).getD i z))))) =
       shT g h w λi j'=>if j'=j/\i%st=0/\i<(m+1)*st then (op c).getD i z else if j'%st=0/\j'<j then (op (tab h λi=>e i j')).getD i z else e i j':=by
      unfold shT
      rw[Xsq]
      refine Xhx λi' hi'=>?_
      by_cases q:i'=i
      .subst q
       rw[if_pos rfl,Xsq]
       congr 1
       refine Xhx λj' hj'=>?_
       dsimp only
       by_cases y:j'=j
       .subst y
        rw[if_pos rfl,if_pos ⟨rfl,by rw[<- hi0];exact mul_mod_left _ _,by rw[<- hi0,Nat.add_mul];omega⟩]
       .simp only[y,false_and,if_false]
      .rw [if_neg q]
       congr 1
       refine Xhx λj' hj'=>?_
       dsimp only
       by_cases y:j'=j/\i'%st=0
       .have hne:i'≠m*st:=by rw[hi0];exact q
        have:=Xm5 (n:=m) s0 y.2 hne
        by_cases y2:i'<m*st
        .rw [if_pos ⟨y.1,y.2,y2⟩,if_pos ⟨y.1,y.2,this.mp y2⟩]
        .rw [if_neg (show ¬ (j'=j/\i'%st=0/\i'<m*st) from λy'=>y2 y'.2.2),if_neg (show ¬ (j'=j/\i'%st=0/\i'<(m+1)*st) from λy'=>y2 (this.mpr y'.2.2))]
       .rw [if_neg (show ¬ (j'=j/\i'%st=0/\i'<m*st) from λy'=>y ⟨y'.1,y'.2.1⟩),if_neg (show ¬ (j'=j/\i'%st=0/\i'<(m+1)*st) from λy'=>y ⟨y'.1,y'.2.1⟩)]
     simp only[hi0]at es
     rw[es]
   .rintro δ ⟨p3,rfl⟩
    rw[Xfu]
    refine⟨hi,vI j,vD (.lst ((op c).map g)),p3,?_⟩
    rw[Xsr (e':=λi j=>if j%st=0/\j<(n+1)*st then (op (tab h λi=>e i j)).getD i z else e i j)]
    intro i j' hi' hj'
    dsimp only
    by_cases y:j'=j
    .subst y
     rw[hcc,if_pos (show j'%st=0/\j'<(n+1)*st from⟨by rw[<- hj];exact mul_mod_left _ _,by rw[<- hj,Nat.add_mul];omega⟩)]
     by_cases q:i%st=0
     .rw [if_pos ⟨rfl,q,Xo3 s0 hi' q⟩]
     .rw [if_neg λy'=>q y'.2.1,if_neg (show ¬ (j'%st=0/\j'<j') from λy'=>by omega),ok.off c i hcl hi' q,<- hcc,Xo1 hi']
    .rw [if_neg λy'=>y y'.1]
     by_cases q:j'%st=0
     .have hne:j'≠n*st:=by rw[hj];exact y
      have:=Xm5 (n:=n) s0 q hne
      rw[hj]at this
      by_cases y2:j'<j
      .rw [if_pos ⟨q,y2⟩,if_pos ⟨q,this.mp y2⟩]
      .rw [if_neg λy'=>y2 y'.2,if_neg λy'=>y2 (this.mpr y'.2)]
     .rw [if_neg λy'=>q y'.1,if_neg λy'=>q y'.1]
 .rintro δ ⟨_,o1,o2,o3,rfl⟩
  rw[Xfu]
  refine⟨_,rfl,?_⟩
  rw[Xsr (e':=Yhb z op h st e)]
  .exact k
  .intro i j hi hj
   show (if j%st=0/\j<Xht 0 w st*st then _ else _)=if j%st=0 then _ else _
   by_cases q:j%st=0
   .rw [if_pos ⟨q,Xo3 s0 hj q⟩,if_pos q]
   .rw [if_neg λy=>q y.1,if_neg q]
theorem Yh5 (h st:Nat)(s0:0<st):sliceRange 0 h st=(List.range (Xht 0 h st)).map λk=>k*st:=by
 unfold sliceRange Xht Builtin.Range.rangeSize
 have hs:(st:Int) > 0:=by omega
 simp only[hs,if_true]
 by_cases hh:(0:Int)<h
 .simp only[hh,if_true]
  have e:((h:Int)-0+st-1) / st=((h:Int)-0-1) / st+1:=by
   rw[show (h:Int)-0+st-1=((h:Int)-0-1)+1*st by omega,Int.add_mul_ediv_right _ _ (by omega)]
  rw[e]
  refine map_congr_left λk _=>?_
  rw[zero_add,Int.mul_comm]
  exact_mod_cast rfl
 .simp only[hh,if_false]
  rfl
theorem Xzl {α β:Type}{f:α->Option β}{g:α->β}:∀{js:List α},(∀j∈js,f j=some (g j))->js.filterMap f=js.map g
 | [],_=>rfl
 |j::js,h=>by
  rw[filterMap_cons_some (h j mem_cons_self),Xzl λk hk=>h k (mem_cons_of_mem _ hk),map_cons]
theorem Xqh {β:Type}{h st:Nat}{f:Nat->β}(s0:0<st):Xo4 (tab h f) st=tab (Xht 0 h st) λk=>f (k*st):=by
 unfold Xo4
 rw[Xbr,Yh5 h st s0]
 unfold tab
 rw[filterMap_map]
 refine Xzl λk hk=>?_
 exact Xl7 (Xl8 s0 (mem_range.mp hk))
theorem Xt9 {h:Nat}:Xht 0 h (1:Nat)=h:=Xlj λi=>by
 rw[Xpd (by decide)]
 simp
abbrev Xe0:Stmt:=top 65
theorem Xvc:FnScope ["sheet","k"] ["sheet","k"] (Xac Xe0):=by walk_at "S"
def Xog:DSp:=λds P=>∃(α:Type) (g:α->D) (h w k:Nat) (e:Nat->Nat->α),ds=[.lst (shV g h w e),.int k]/\k<=6/\h<=1000/\w<=1000/\P (.nl (shT g (Xht 0 h (2^k:Nat)) (Xht 0 w (2^k:Nat)) λi j=>e (i*2^k) (j*2^k)))
theorem Xvp {f:Addr}{fd:FuncData}(Df:DefAt K mg "thinned" Xe0 f fd)(B:BltV mg)(KV:KitV K)(CV_Walk:ClsV K "Walk" ns_Walk):
  Cal P w K mg base "thinned" 1 ["sheet","k"] (spV K 2 Xog):=by
 refine CalV.of Df Xvc (by walk_at "b") rfl (λc A o s H E hr=>⟨_,_,(Xaj (Xax (Xda rfl (Xgf (Xx3 (pv 0) (Xaz Xkd Xal (pv 1)))) (show BlkScope (Xac Xe0) _ from⟨rfl,by decide +kernel,by decide +kernel,by decide +kernel⟩) (N:=["row","k"]) (ix:=[none,some 1]) (show Xb2 _ _ _ _ from⟨⟨rfl,rfl,.inl rfl⟩,trivial⟩) (λ_ _ _=>(Xa4 (i:=0) (show List.Nodup (["row","k"]:List Str) by decide +kernel) rfl (Or.inl rfl))) (λ_ _ _=>(Xx3 (pv 0) (Xaz Xkd Xal (pv 1))))))),
  (Xa1 (Xb3 (Xg5 (Xb8 (Xxi Xah (Xaq (Xas Xey (Xaq Xai) Xae))))) Xa5 (Xxi Xah (Xaq (Xas Xey (Xaq Xai) Xae))))),?_⟩)
 rintro ds Pr ⟨α,g,h,w,k,e,rfl,k6,hh,hw,q⟩
 have hp:(1:Int)*2^((k:Int)).toNat=((2^k:Nat):Int):=by simp
 have hp0:0<2^k:=Nat.pow_pos (by decide)
 fin2
 rw[hp]
 refine⟨⟨by omega,by omega⟩,by exact_mod_cast hp0,?_⟩
 simp only[shV]
 rw[Xqh hp0]
 simp only[Xhw,OV.val]
 have hle:=Ye9 (h:=h) hp0
 refine Xix.map (List.range (Xht 0 h (2^k:Nat))) (λi=>D.lst (tab w λj=>g (e (i*2^k) j))) (λi=>.nl (tab (Xht 0 w (2^k:Nat)) λj=>.fz (g (e (i*2^k) (j*2^k))))) (by rw[length_range];omega) (λi hi Q q=>?_) ?_
 .fin2
  rw[hp]
  refine⟨⟨by omega,by omega⟩,by exact_mod_cast hp0,?_⟩
  rw[Xqh hp0,Xhw]
  exact q
 .exact q
theorem Xze {α:Type}{z:α}{G:α->α->α->α}{h:Int}{st:Nat}{xs:List α}{p:Nat}(s0:0<st)(hh:h=0∨h=1)(hp:p%st≠0):(Xth z G h st xs).getD p z=xs.getD p z:=by
 rw[(Yls (z:=z) (G:=G) (h:=h) (st:=(st:Int)) (xs:=xs) (by omega) hh).2 p,if_neg]
 intro hm
 obtain⟨_,_,i,hi⟩:=(Xia (show (0:Int)<st by omega)).mp hm
 apply hp
 rcases hh with rfl |rfl
 .have:p=i*2*st:=by
   have e:(p:Int)=((i*2*st:Nat):Int):=by rw[hi,Int.zero_mul,zero_add,<- mul_assoc];exact_mod_cast rfl
   exact_mod_cast e
  rw[this];exact mul_mod_left _ _
 .have:p=(1+i*2)*st:=by
   have e:(p:Int)=(((1+i*2)*st:Nat):Int):=by rw[hi,<- mul_assoc,<- Int.add_mul];exact_mod_cast rfl
   exact_mod_cast e
  rw[this];exact mul_mod_left _ _
theorem Xr7 {α:Type}{z:α}{G:Lf->α->α->α->α}{st:Nat}{p:Nat}(s0:0<st)(hp:p%st≠0):∀(gs:List Lf) (xs:List α),(∀f∈gs,f.Ok)->(gs.foldl (λxs f=>Xth z (G f) f.h st xs) xs).getD p z=xs.getD p z
 | [],_,_=>rfl
 |f::gs,xs,ok=>by
  rw[foldl_cons,Xr7 s0 hp gs _ λg hg=>ok g (mem_cons_of_mem _ hg)]
  exact Xze s0 (ok f mem_cons_self).h hp
theorem Yfb {fs:List Lf}{st:Int}{xs:List Int}:Xce fs st xs=fs.foldl (λxs f=>Xth 0 ((λ(f:Lf) x l r=>x+1*Xtc f l r) f) f.h st xs) xs:=rfl
theorem Ylg {k:Nat}(h:k<=6):0<2^k/\2^k<=64:=⟨Nat.pow_pos (by decide),le_trans (Nat.pow_le_pow_right (by decide) h) (by decide)⟩
theorem Xq6 {fs:List Lf}{st n:Nat}(ok:∀f∈fs,f.Ok)(s0:0<st)(s1:st<=64)(hn:n<=1000):OpOk Int 0 D.int (Xce fs st) n st (Xll fs) Xfo where
 run:=λr hr Q q=>⟨r,fs,st,rfl,⟨ok,by omega,by omega,by omega⟩,q⟩
 len:=λr hr=>by rw[Yfb,Xr8];exact hr
 off:=λr i hr hi hm=>Xr7 (z:=(0:Int)) (G:=λ(f:Lf) x l r=>x+1*Xtc f l r) s0 hm fs r ok
 lf:=λx=>rfl
theorem Yeh {α:Type}{g:α->D}{h w:Nat}{e:Nat->Nat->α}:shT g (Xht 0 h (2^0:Nat)) (Xht 0 w (2^0:Nat)) (λi j=>e (i*2^0) (j*2^0))=shT g h w e:=by
 rw[show (2^0:Nat)=1 by decide,Xt9,Xt9]
 simp only[Nat.mul_one]
def shI (h w:Nat)(e:Nat->Nat->Int):D:=.lst (shV D.int h w e)
abbrev Xmm:Stmt:=top 64
theorem Xsu:FnScope ["picture","ladder","levels","sheet","k"] ["picture","ladder","levels"] (Xac Xmm):=by walk_at "S"
def Xw6:DSp:=λds P=>∃(h w:Nat) (e:Nat->Nat->Int) (fs:List Lf) (L:Nat),ds=[shI h w e,Xll fs,.int L]/\(∀f∈fs,f.Ok)/\L<=6/\0<h/\h<=1000/\w<=1000/\P (.nl (shT D.int h w (Ybr 0 (λk=>Xce fs (2^k:Nat)) h w L e)))
theorem Yfs {f:Addr}{fd:FuncData}(Df:DefAt K mg "laid" Xmm f fd)(B:BltV mg)(KV:KitV K)(CV_Walk:ClsV K "Walk" ns_Walk)(Xdq:Xu5 K mg "raised")(Xni:Cal P w K mg base "thinned" 1 ["sheet","k"] (spV K 2 Xog))(Xhm:Cal P w K mg base "change_rows" 4 ["sheet","doing","ladder","stride"] (Yee K 4 Xi9))(Xe9:Cal P w K mg base "change_columns" 4 ["sheet","doing","ladder","stride"] (Yee K 4 Xgm)):
  Cal P w K mg base "laid" 5 ["picture","ladder","levels"] (spV K 3 Xw6):=by
 refine CalV.of Df Xsu (by walk_at "b") rfl (λc A o s H E hr=>⟨_,_,(Xag (Xa6 (i:=3) Xsu.nd rfl (Or.inl rfl) (Xa0 Xni (hr.mono (by decide)) (by rfl) (Xaa (pv 0) (Xaa Xal Xad))))
   (Xag (Xgr PassesOwn.never rfl (Xd8 (by rfl) (by exact B.range) (Xaa (pv 2) Xad)) (Xa4 (i:=4) Xsu.nd rfl (Or.inl rfl)) (Xag (Xbz (Xa0 Xhm (hr.mono (by decide)) (by rfl) (Xaa (pv 3) (Xaa (Ya9 (by rfl) Xdq) (Xaa (pv 1) (Xaa (Xaz Xkd Xal (pv 4)) Xad))))))
   (Xaj (Xbz (Xa0 Xe9 (hr.mono (by decide)) (by rfl) (Xaa (pv 3) (Xaa (Ya9 (by rfl) Xdq) (Xaa (pv 1) (Xaa (Xaz Xkd Xal (pv 4)) Xad)))))))))
   (Xaj (Xax (pv 3))))),
  (Xao (Xa2 (Xau (Xab Xah (Xab Xai Xak))))
   (Xao (Xgp (Xg4 (Xaf Xae Xam)) Xa5 (Xao (Xq0 (Xab (Yaw Xdq) (Xab Xah (Xab (Xas Xey (Xaq Xai) Xae) Xak))))
   (Xq0 (Xab (Yaw Xdq) (Xab Xah (Xab (Xas Xey (Xaq Xai) Xae) Xak))))))
   Xmo)),?_⟩)
 rintro ds Pr ⟨h,w,e,fs,L,rfl,ok,l6,h0,hh,hw,k⟩
 simp only[shI]
 gn_on
 refine⟨Int,D.int,h,w,0,e,rfl,by omega,hh,hw,?_⟩
 rw[Yeh]
 gp_on
 fin2
 refine⟨⟨by omega,by omega⟩,?_⟩
 refine⟨λn δ=>n<=L/\∃o,δ=[vD (shI h w e),vD (Xll fs),vI L,some (.own (.nl (shT D.int h w (Ybr 0 (λk=>Xce fs (2^k:Nat)) h w n e)))),o],⟨zero_le _,none,rfl⟩,?_,?_⟩
 .rintro n d δ hd ⟨hn,o,rfl⟩
  obtain⟨hi,rfl⟩:=Xg8 hd
  have hnL:n<L:=by omega
  obtain⟨p0,p1⟩:=Ylg (show n<=6 by omega)
  have hp:(1:Int)*2^(0+(n:Int)*1).toNat=((2^n:Nat):Int):=by simp
  gn_on
  rw[hp]
  refine⟨⟨by (clear hw;omega),by (clear h0 hh hw;omega)⟩,Int,0,D.int,Xce fs (2^n:Nat),"raised",Xfo,Xll fs,h,w,2^n,_,rfl,rfl,by simp[Xwe],Xq6 ok p0 p1 hw,p0,p1,hh,?_⟩
  gp_on
  fin2
  rw[hp]
  refine⟨⟨by (clear hw;omega),by (clear h0 hh hw;omega)⟩,Int,0,D.int,Xce fs (2^n:Nat),"raised",Xfo,Xll fs,h,w,2^n,_,rfl,rfl,by simp[Xwe],Xq6 ok p0 p1 hh,p0,p1,h0,hh,hw,?_⟩
  exact⟨hnL,_,rfl⟩
 .rintro δ ⟨_,o,rfl⟩
  rw[Xfu,show ((L:Int)).toNat=L by omega]
  exact k
theorem Xxy {a b:Nat}(h:a<=b):(2:Int)^a<=2^b:=by
 have:(2:Nat)^a<=2^b:=Nat.pow_le_pow_right (by decide) h
 exact_mod_cast this
theorem Ygs {q d:Int}(hd:1<=d){B:Int}(h1 : -B<=q)(h2:q<=B)(hB:0<=B) : -B<=q / d/\q / d<=B:=by
 constructor
 .rw [Int.le_ediv_iff_mul_le (by omega)]
  have:B*1<=B*d:=Int.mul_le_mul_of_nonneg_left hd hB
  rw[neg_mul]
  omega
 .refine Int.ediv_le_of_le_mul (by omega) ?_
  have:B*1<=B*d:=Int.mul_le_mul_of_nonneg_left hd hB
  omega
theorem Xyq {c x B:Int}(hc : -8<=c/\c<=8)(hx : -B<=x/\x<=B) : -(8*B)<=c*x/\c*x<=8*B:=by
 have hB:0<=B:=by omega
 rcases Int.le_total 0 c with h |h
 .have h1:c*x<=c*B:=Int.mul_le_mul_of_nonneg_left hx.2 h
  have h2:c*B<=8*B:=Int.mul_le_mul_of_nonneg_right hc.2 hB
  have h3:c*(-B)<=c*x:=Int.mul_le_mul_of_nonneg_left hx.1 h
  rw[Int.mul_neg]at h3
  exact⟨by omega,by omega⟩
 .have h1:(-c)*x<=(-c)*B:=Int.mul_le_mul_of_nonneg_left hx.2 (by omega)
  have h2:(-c)*B<=8*B:=Int.mul_le_mul_of_nonneg_right (by omega) hB
  have h3:(-c)*(-B)<=(-c)*x:=Int.mul_le_mul_of_nonneg_left hx.1 (by omega)
  rw[Int.mul_neg,neg_mul,neg_mul]at h3
  rw[neg_mul,neg_mul]at h1
  rw[neg_mul]at h2
  exact⟨by omega,by omega⟩
theorem Ygn {f:Lf}(ok:f.Ok){b:Nat}(hb:6<=b){x y:Int}(hx : -2^b<=x/\x<=2^b)(hy : -2^b<=y/\y<=2^b) : -(17*2^b)<=Xtc f x y/\Xtc f x y<=17*2^b:=by
 have h6:(64:Int)<=2^b:=Xxy (a:=6) hb
 have h1:=Xyq ok.l hx
 have h2:=Xyq ok.r hy
 have h3:=ok.a
 have hd:(1:Int)<=2^f.s.toNat:=Xxy (a:=0) (zero_le _)
 unfold Xtc
 exact Ygs hd (by omega) (by omega) (by omega)
theorem Yf7 {f:Lf}(ok:f.Ok){b:Nat}(hb:6<=b){st:Int}(hs:0<st){xs:List Int}(h:∀p:Nat,-2^b<=xs.getD p 0/\xs.getD p 0<=2^b):∀p:Nat,-2^(b+5)<=(Xr1 1 f st xs).getD p 0/\(Xr1 1 f st xs).getD p 0<=2^(b+5):=λp=>by
 have h0:(0:Int)<2^b:=Int.pow_pos (by decide)
 have e5:(2:Int)^(b+5)=32*2^b:=by rw[Int.pow_add,Int.mul_comm];rfl
 rw[(Xum hs ok.h).2 p,e5]
 have hp:=h p
 split
 .unfold Xk8
  have hg:=Ygn ok hb (h (nbL (p:Int) xs.length st).toNat) (h (nbR (p:Int) xs.length st).toNat)
  rw[toNat_natCast,one_mul]
  exact⟨by omega,by omega⟩
 .exact ⟨by omega,by omega⟩
theorem Xpe {st:Int}(hs:0<st):∀{fs:List Lf} {b:Nat} {xs:List Int},(∀f∈fs,f.Ok)->6<=b->(∀p:Nat,-2^b<=xs.getD p 0/\xs.getD p 0<=2^b)->∀p:Nat,-2^(b+5*fs.length)<=(Xce fs st xs).getD p 0/\(Xce fs st xs).getD p 0<=2^(b+5*fs.length)
 | [],b,xs,_,_,h=>h
 |f::fs,b,xs,ok,hb,h=>by
  have:=Xpe hs (fs:=fs) (b:=b+5) (xs:=Xr1 1 f st xs) (λg hg=>ok g (by simp[hg])) (by omega) (Yf7 (ok f (by simp)) hb hs h)
  rw[length_cons,show b+5*(fs.length+1)=b+5+5*fs.length by omega]
  exact this
theorem Ych {b n:Nat}{f:Nat->Int}(h:∀i,-2^b<=f i/\f i<=2^b):∀p:Nat,-2^b<=(tab n f).getD p 0/\(tab n f).getD p 0<=2^b:=λp=>by
 have h0:(0:Int)<2^b:=Int.pow_pos (by decide)
 by_cases hp:p<n
 .rw [Xo1 hp];exact h p
 .rw [getD_eq_getElem?_getD,getElem?_eq_none (by rw[Xbr];omega)]
  exact⟨by show -2^b<=(0:Int);omega,by show (0:Int)<=2^b;omega⟩
theorem Yde {fs:List Lf}(ok:∀f∈fs,f.Ok){h w b:Nat}(hb:6<=b){e:Nat->Nat->Int}(he:∀i j,-2^b<=e i j/\e i j<=2^b):∀(L:Nat) (i j:Nat),-2^(b+10*fs.length*L)<=Ybr 0 (λk=>Xce fs (2^k:Nat)) h w L e i j/\Ybr 0 (λk=>Xce fs (2^k:Nat)) h w L e i j<=2^(b+10*fs.length*L)
 | 0,i,j=>he i j
 |L + 1,i,j=>by
  have ih:=Yde (h:=h) (w:=w) ok hb he L
  have hs:(0:Int)<((2^L:Nat):Int):=by have:=two_pow_pos L;omega
  have up:∀{a c:Nat} {x:Int},a<=c->(-2^a<=x/\x<=2^a)->-2^c<=x/\x<=2^c:=λhac hx=>by
   have:=Xxy hac
   exact⟨by (clear hb hs;omega),by (clear hb hs;omega)⟩
  have r1:∀i j,-2^(b+10*fs.length*L+5*fs.length)<=Yg9 0 (Xce fs (2^L:Nat)) w (2^L) (Ybr 0 (λk=>Xce fs (2^k:Nat)) h w L e) i j/\Yg9 0 (Xce fs (2^L:Nat)) w (2^L) (Ybr 0 (λk=>Xce fs (2^k:Nat)) h w L e) i j<=2^(b+10*fs.length*L+5*fs.length):=λi j=>by
   unfold Yg9
   split
   .exact Xpe hs ok (by omega) (Ych (ih i)) j
   .exact up (by omega) (ih i j)
  show -2^_<=Yhb 0 (Xce fs (2^L:Nat)) h (2^L) _ i j/\Yhb 0 (Xce fs (2^L:Nat)) h (2^L) _ i j<=_
  rw[show b+10*fs.length*(L+1)=b+10*fs.length*L+5*fs.length+5*fs.length by rw[mul_add];omega]
  unfold Yhb
  split
  .exact Xpe hs ok (by omega) (Ych (λi=>r1 i j)) i
  .exact up (by omega) (r1 i j)
theorem Ya4 (e:Nat):(0:Int)<2^e:=by
 have h1:0<(2:Nat)^e:=Nat.pow_pos (by decide)
 have h2:((2^e:Nat):Int)=(2:Int)^e:=by simp
 omega
theorem Ylh {i j:Int}(hi:0<=i)(hj:0<=j):Builtin.bitOr i j=((i.toNat|||j.toNat:Nat):Int):=by
 unfold Builtin.bitOr
 have e1:decide (0<=Builtin.bitNot i)=false:=decide_eq_false (by unfold Builtin.bitNot;omega)
 have e2:decide (0<=Builtin.bitNot j)=false:=decide_eq_false (by unfold Builtin.bitNot;omega)
 have e3:Builtin.bitNot (Builtin.bitNot i)=i:=by unfold Builtin.bitNot;omega
 have e4:Builtin.bitNot (Builtin.bitNot j)=j:=by unfold Builtin.bitNot;omega
 unfold Builtin.bitAnd
 rw[e1,e2]
 dsimp only
 rw[e3,e4]
 unfold Builtin.bitNot
 omega
theorem Yg5 (n:Nat):Builtin.bitAnd (n:Int) 1=((n%2:Nat):Int):=by
 unfold Builtin.bitAnd
 rw[decide_eq_true (show (0:Int)<=(n:Int) by omega),decide_eq_true (show (0:Int)<=1 by decide)]
 dsimp only
 have e:(1:Int).toNat=1:=rfl
 rw[toNat_natCast,e,Nat.and_one_is_mod]
theorem Yb5 {i j:Int}(hi:0<=i)(hj:0<=j)(L:Nat):Builtin.bitAnd (Builtin.bitOr i j / 2^L) 1=0↔i / 2^L%2=0/\j / 2^L%2=0:=by
 obtain⟨a,rfl⟩:=Int.eq_ofNat_of_zero_le hi
 obtain⟨b,rfl⟩:=Int.eq_ofNat_of_zero_le hj
 rw[Ylh hi hj]
 have e:((((a:Int).toNat|||(b:Int).toNat:Nat):Int) / 2^L)=(((a|||b) / 2^L:Nat):Int):=by
  simp
 rw[e,Yg5]
 have t:(a|||b) / 2^L%2=0↔(a / 2^L%2=0/\b / 2^L%2=0):=by
  have h:=Nat.testBit_or a b L
  rw[Nat.testBit_eq_decide_div_mod_eq,Nat.testBit_eq_decide_div_mod_eq,Nat.testBit_eq_decide_div_mod_eq]at h
  have h':=(decide_eq_decide (p:=(a|||b) / 2^L%2=1) (q:=a / 2^L%2=1∨b / 2^L%2=1)).mp (by rw[h,Bool.decide_or])
  omega
 have c1:((a:Int) / 2^L%2=0)↔a / 2^L%2=0:=by
  have:((a:Int) / 2^L%2)=((a / 2^L%2:Nat):Int):=by simp
  clear hj e;omega
 have c2:((b:Int) / 2^L%2=0)↔b / 2^L%2=0:=by
  have:((b:Int) / 2^L%2)=((b / 2^L%2:Nat):Int):=by simp
  clear hi e;omega
 rw[c1,c2,<- t]
 omega
def lvl:Nat->Int->Int->Nat
 | 0,_,_=>0
 |n+1,i,j=>if i%2=0/\j%2=0 then 1+lvl n (i / 2) (j / 2) else 0
theorem Xuk:∀(n:Nat) (i j:Int),lvl n i j<=n
 | 0,_,_=>Nat.le_refl _
 |n+1,i,j=>by
  unfold lvl
  split
  .have:=Xuk n (i / 2) (j / 2);omega
  .omega
theorem Xzq (i:Int)(L:Nat):i / 2^L / 2=i / 2^(L+1):=by
 rw[Int.pow_succ,Int.ediv_ediv_of_nonneg (Int.le_of_lt (Ya4 L))]
abbrev Xei:Stmt:=top 40
theorem Xgy:FnScope ["i","j","levels","both","level"] ["i","j","levels"] (Xac Xei):=by walk_at "S"
def Xgt:DSp:=λds P=>match ds with
 | [.int i,.int j,.int n]=>(0<=i/\0<=j/\0<=n)/\P (.fz (.int (lvl n.toNat i j)))
 |_=>False
theorem Xs1 {f:Addr}{fd:FuncData}(Df:DefAt K mg "level_of" Xei f fd)(B:BltV mg)(KV:KitV K)(CV_Walk:ClsV K "Walk" ns_Walk):
  Cal P w K mg base "level_of" 1 ["i","j","levels"] (spV K 3 Xgt):=by
 refine CalV.of Df Xgy (by walk_at "b") rfl (λc A o s H E hr=>⟨_,_,(Xag (Xa6 (i:=3) Xgy.nd rfl (Or.inl rfl) (Xaz Yli (pv 0) (pv 1)))
   (Xag (Xa6 (i:=4) Xgy.nd rfl (Or.inl rfl) Xal)
   (Xag (Xuc PassesOwn.never (Xxx (Xbe Xrh (pv 4) (pv 2) (Xbg _)) (Xsy (Xbe Xi1 (Xaz Yc7 (Xaz Xyc (pv 3) (pv 4)) Xal) Xal (Xbg _)))).pt (Xaj (Yio (i:=4) Xgy.nd rfl (Or.inl rfl) Xal Ydl)))
   (Xaj (Xax (pv 4)))))),
  (Xao (Xa2 (Xbf (Xas Xc1 Xae Xae)))
   (Xao (Xa2 (Xbf Xai))
   (Xao (Xt4 (Xxd (Xbd (Xas Xhu Xae Xae)) (Xbd (Xas Xi2 (Xaq (Xas Xc1 (Xaq (Xas Xey Xae Xae)) (Xaq Xai))) (Xaq Xai)))) (Yh3 Ylj (Xaq Xai)))
   (Xa1 (Xbf Xah))))),?_⟩)
 intro ds Pr h
 unfold Xgt at h
 split at h
 .rename_i i j n
  obtain⟨⟨hi,hj,hn⟩,k⟩:=h
  fin2
  refine⟨λm δ=>∃L:Nat,δ=[vI i,vI j,vI n,vI (Builtin.bitOr i j),vI L]/\(L:Int)<=n/\m=n.toNat-L/\lvl n.toNat i j=L+lvl (n.toNat-L) (i / 2^L) (j / 2^L),⟨_,0,rfl,by omega,rfl,by simp⟩,?_⟩
  rintro m δ ⟨L,rfl,h1,rfl,h2⟩
  fin2
  by_cases hL:(L:Int)<n
  .rw [if_pos hL]
   refine⟨by (clear h1;omega),?_⟩
   rw[toNat_natCast]
   obtain⟨q,hq⟩:∃q,n.toNat-L=q+1:=⟨n.toNat-L-1,by (clear h1;omega)⟩
   rw[hq,lvl]at h2
   have hb:=Yb5 hi hj L
   by_cases hz:Builtin.bitAnd (Builtin.bitOr i j / 2^L) 1=0
   .rw [if_pos hz]
    rw[if_pos (hb.mp hz),Xzq,Xzq]at h2
    refine⟨n.toNat-(L+1),by omega,L+1,rfl,by omega,rfl,?_⟩
    rw[show n.toNat-(L+1)=q by omega]
    omega
   .rw [if_neg hz]
    rw[if_neg λz=>hz (hb.mpr z)]at h2
    rw[h2]at k
    exact k
  .rw [if_neg hL]
   have e:n.toNat-L=0:=by omega
   rw[e,lvl]at h2
   rw[h2]at k
   simpa using k
 .exact h.elim
def ptD (p:Int×Int):D:=.tup [.int p.1,.int p.2]
def Xku (i w:Nat):List (Int×Int):=(List.range w).map λ(j:Nat)=>((i:Int),(j:Int))
def Xn7 (h w:Nat):List (Int×Int):=(List.range h).flatMap λi=>Xku i w
def lvF (n:Nat)(p:Int×Int):Nat:=lvl n p.1 p.2
def grp (n:Nat)(ps:List (Int×Int))(l:Nat):List (Int×Int):=ps.filter λp=>lvF n p==l
def Xe6 (h w n:Nat):List (Int×Int):=((List.range (n+1)).map (grp n (Xn7 h w))).reverse.flatten
def Xup (n:Nat)(ps:List (Int×Int)):List OV:=(List.range (n+1)).map λl=>.nl ((grp n ps l).map λp=>.fz (ptD p))
theorem Ybz (n:Nat):Xup n []=(List.range (n+1)).map λ_=>OV.nl []:=rfl
theorem Xpu {n l:Nat}{ps:List (Int×Int)}(h:l<=n):(Xup n ps)[l]?=some (.nl ((grp n ps l).map λp=>.fz (ptD p))):=by
 unfold Xup
 rw[getElem?_map,List.getElem?_range (by omega)]
 rfl
theorem Xy6 {n:Nat}{ps:List (Int×Int)}{p:Int×Int}:(Xup n ps).set (lvF n p) (.nl (((grp n ps (lvF n p)).map λp=>OV.fz (ptD p))++[.fz (ptD p)]))=Xup n (ps++[p]):=by
 have hle:lvF n p<=n:=Xuk _ _ _
 refine ext_getElem? λl=>?_
 rw[getElem?_set]
 by_cases hl:l<=n
 .rw [Xpu hl,Xpu hl]
  have eg:grp n (ps++[p]) l=grp n ps l++(if lvF n p=l then [p] else []):=by
   unfold grp
   rw[List.filter_append]
   congr 1
   by_cases z:lvF n p=l<;>simp[z]
  rw[eg]
  by_cases z:lvF n p=l
  .rw [if_pos z,if_pos z,if_pos (by simp[Xup];omega),map_append,z]
   rfl
  .rw [if_neg z,if_neg z,append_nil]
 .have e1:(Xup n ps)[l]?=none:=getElem?_eq_none (by simp[Xup];omega)
  have e2:(Xup n (ps++[p]))[l]?=none:=getElem?_eq_none (by simp[Xup];omega)
  rw[if_neg (by omega),e1,e2]
theorem Xv5 {n l:Nat}{ps:List (Int×Int)}:(grp n ps l).length<=ps.length:=List.length_filter_le _ _
theorem Xsn {i w:Nat}:Xn7 (i+1) w=Xn7 i w++Xku i w:=by
 unfold Xn7
 rw[range_succ,List.flatMap_append]
 simp
theorem Xvl {i j:Nat}:Xku i (j+1)=Xku i j++[((i:Int),(j:Int))]:=by
 unfold Xku
 rw[range_succ,map_append]
 rfl
theorem Xrc {i w:Nat}:(Xku i w).length=w:=by simp[Xku]
theorem Xu4 {h w:Nat}:(Xn7 h w).length=h*w:=by
 induction h with
 |zero=>simp[Xn7]
 |succ h ih=>rw[Xsn,length_append,ih,Xrc,succ_mul]
theorem Xy5 {n:Nat}{ps:List (Int×Int)}:(Xup n ps).map OV.val=(List.range (n+1)).map λl=>D.lst ((grp n ps l).map ptD):=by
 unfold Xup
 rw[map_map]
 refine map_congr_left λl _=>?_
 show OV.val (.nl _)=_
 rw[OV.val,OV.vals_eq,map_map]
 rfl
theorem Xwz (k:Nat)(g:Nat->Nat):∀m:Nat,k<m->((List.range m).map λl=>g l+if k=l then 1 else 0).sum=((List.range m).map g).sum+1
 | 0,h=>by omega
 |m + 1,h=>by
  rw[range_succ,map_append,map_append,sum_append,sum_append]
  by_cases hk:k=m
  .subst hk
   have:((List.range k).map λl=>g l+if k=l then 1 else 0)=(List.range k).map g:=by
    refine map_congr_left λl hl=>?_
    rw[if_neg (by have:=mem_range.mp hl;omega)];rfl
   rw[this]
   simp
   omega
  .rw [Xwz k g m (by omega)]
   simp[hk]
   omega
theorem Yhh:∀m:Nat,((List.range m).map λ_=>0).sum=0
 | 0=>rfl
 |m+1=>by
  rw[range_succ,map_append,sum_append,Yhh m]
  rfl
theorem Xy4 (n:Nat):∀ps:List (Int×Int),((List.range (n+1)).map λl=>(grp n ps l).length).sum=ps.length
 | []=>by
  have:((List.range (n+1)).map λl=>(grp n [] l).length)=(List.range (n+1)).map λ_=>0:=map_congr_left λl _=>rfl
  rw[this]
  exact Yhh _
 |p :: ps=>by
  have e:((List.range (n+1)).map λl=>(grp n (p::ps) l).length)=(List.range (n+1)).map λl=>(grp n ps l).length+if lvF n p=l then 1 else 0:=by
   refine map_congr_left λl _=>?_
   unfold grp
   rw[filter_cons]
   by_cases z:lvF n p=l<;>simp[z]
  rw[e,Xwz _ _ _ (by have:=Xuk n p.1 p.2;unfold lvF;omega),Xy4 n ps]
  rfl
theorem Xjn {h w n:Nat}:(Xe6 h w n).length=h*w:=by
 unfold Xe6
 rw[List.length_flatten,map_reverse,List.sum_reverse,map_map]
 exact (Xy4 n (Xn7 h w)).trans Xu4
theorem Xjy {α:Type}{xs:List (List α)}{i:Nat}{x:List α}(h:xs[i]?=some x):(xs.take (i+1)).flatten=(xs.take i).flatten++x:=by
 obtain⟨hi,e⟩:=List.getElem?_eq_some_iff.mp h
 rw[List.take_succ_eq_append_getElem hi,e,List.flatten_append]
 simp
abbrev Xf6:Stmt:=top 41
theorem Xgo:FnScope ["high","wide","levels","groups","i","j","ordered","group"] ["high","wide","levels"] (Xac Xf6):=by walk_at "S"
def Xqi:DSp:=λds P=>∃h w n:Nat,ds=[.int (h:Int),.int (w:Int),.int (n:Int)]/\(h<=100/\w<=100/\n<=100)/\P (.nl ((Xe6 h w n).map λp=>.fz (ptD p)))
theorem Xyg {f:Addr}{fd:FuncData}(Df:DefAt K mg "places" Xf6 f fd)(B:BltV mg)(KV:KitV K)(CV_Walk:ClsV K "Walk" ns_Walk)(Xk3:Cal P w K mg base "level_of" 1 ["i","j","levels"] (spV K 3 Xgt)):
  Cal P w K mg base "places" 2 ["high","wide","levels"] (spV K 3 Xqi):=by
 refine CalV.of Df Xgo (by walk_at "b") rfl (λc A o s H E hr=>⟨_,_,(Xag (Xgq (i:=3) Xgo.nd rfl (Or.inl rfl) rfl (Xd8 (by rfl) (by exact B.range) (Xaa (Xaz Xef (pv 2) Xal) Xad)) (show BlkScope (Xac Xf6) _ from⟨rfl,by decide +kernel,by decide +kernel,by decide +kernel⟩) (N:=["level"]) (ix:=[none]) (show Xb2 _ _ _ _ from trivial) (λ_ _ _=>(Xa4 (i:=0) (show List.Nodup (["level"]:List Str) by decide +kernel) rfl (Or.inl rfl))) (λ_ _ _=>(Xc0 Xad)))
   (Xag (Xgr PassesOwn.never rfl (Xd8 (by rfl) (by exact B.range) (Xaa (pv 0) Xad)) (Xa4 (i:=4) Xgo.nd rfl (Or.inl rfl)) (Xaj (Xgr PassesOwn.never rfl (Xd8 (by rfl) (by exact B.range) (Xaa (pv 1) Xad)) (Xa4 (i:=5) Xgo.nd rfl (Or.inl rfl)) (Xaj (Xbz (Xec plainAttrs_list PySem.F.slot_list_append PySem.F.type_list_append Xcw (Xbc Xbt (pv 3) (Xa0 Xk3 (hr.mono (by decide)) (by rfl) (Xaa (pv 4) (Xaa (pv 5) (Xaa (pv 2) Xad)))) (λ_ _=>rfl)) (Xaa (Xcc (Xaa (pv 4) (Xaa (pv 5) Xad))) Xad)))))))
   (Xag (Xa6 (i:=6) Xgo.nd rfl (Or.inl rfl) (Xc0 Xad))
   (Xag (Xgr PassesOwn.never rfl (Xrd rfl B.reversed (Xaa (pv 3) Xad)) (Xa4 (i:=7) Xgo.nd rfl (Or.inl rfl)) (Xaj (Xbz (Xec plainAttrs_list PySem.F.slot_list_extend PySem.F.type_list_extend Xvv (pv 6) (Xaa (pv 7) Xad)))))
   (Xaj (Xax (pv 6))))))),
  (Xao (Xa2 (Xb3 (Xg4 (Xaf (Xaq (Xas Xc1 Xae (Xaq Xai))) Xam)) Xa5 (Xee Xcz)))
   (Xao (Xgp (Xg4 (Xaf Xae Xam)) Xa5 (Xgp (Xg4 (Xaf Xae Xam)) Xa5 (Yep (Xaq (Xb8 (Xau (Xab Xah (Xab Xah (Xab Xah Xak)))))) (Xbf (Xdj (Xab Xah (Xab Xah Xak)))))))
   (Xao (Xa2 (Xee Xcz))
   (Xao (Xxf 3 (Xgp (Yeu (Xab Xah Xak)) Xa5 (Yh2 Xah)))
   Xmo)))),?_⟩)
 rintro ds Pr ⟨h,w',n,rfl,⟨hh,hw,hn⟩,k⟩
 refine Xt3 λN hN=>?_
 fin2
 refine⟨⟨by omega,by omega⟩,Xix.rng (λ_=>.nl []) (by omega) (λi hi Q q=>by fin2;exact q) ?_⟩
 rw[show ((n:Int)+1).toNat=n+1 by omega,<- Ybz]
 gp_on
 gn_on
 refine⟨⟨by omega,by omega⟩,λi δ=>i<=h/\∃o4 o5 o6 o7,δ=[vI h,vI w',vI n,vL (Xup n (Xn7 i w')),o4,o5,o6,o7],⟨zero_le _,_,_,_,_,rfl⟩,?_,?_⟩
 .rintro i d δ hd ⟨hi',o4,o5,o6,o7,rfl⟩
  obtain⟨hi,rfl⟩:=Xg8 hd
  rw[toNat_natCast]at hi
  fin2
  refine⟨⟨by omega,by omega⟩,λj δ=>∃o5,δ=[vI h,vI w',vI n,vL (Xup n (Xn7 i w'++Xku i j)),vI (0+(i:Int)*1),o5,o6,o7],⟨o5,by simp[Xku]⟩,?_,?_⟩
  .rintro j e δ he ⟨o5,rfl⟩
   obtain⟨hj,rfl⟩:=Xg8 he
   rw[toNat_natCast]at hj
   rw[show 0+(i:Int)*1=i by omega,show 0+(j:Int)*1=j by omega]
   fin2
   simp only[Xgt]
   refine⟨⟨by omega,by omega,by omega⟩,?_⟩
   fin2
   rw[toNat_natCast,toNat_natCast]
   have hle:lvl n i j<=n:=Xuk _ _ _
   refine⟨by omega,_,Xpu (l:=lvl n i j) hle,?_,?_⟩
   .have h1:=Xv5 (n:=n) (l:=lvl n i j) (ps:=Xn7 i w'++Xku i j)
    rw[length_append,Xu4,Xrc]at h1
    have h2:i*w'<=100*100:=mul_le_mul (by omega) hw
    rw[length_map]
    omega
   .have e:=Xy6 (n:=n) (ps:=Xn7 i w'++Xku i j) (p:=((i:Int),(j:Int)))
    rw[append_assoc,<- Xvl]at e
    rw[<- e]
    exact⟨_,rfl⟩
  .rintro δ ⟨o5,rfl⟩
   rw[Xfu,toNat_natCast,<- Xsn]
   exact⟨hi,_,_,_,_,rfl⟩
 rintro δ ⟨hi,o4,o5,o6,o7,rfl⟩
 rw[Xfu,toNat_natCast]
 gp_on
 gn_on
 gp_on
 gn_on
 rw[Xy5,<- map_reverse]
 generalize hg3:some (Sl.own (OV.fz (D.lst ((List.range (n+1)).map λl=>D.lst ((grp n (Xn7 h w') l).map ptD)))))=o3
 refine⟨λi δ=>∃o7,δ=[vI h,vI w',vI n,o3,o4,o5,vL ((((((List.range (n+1)).map (grp n (Xn7 h w'))).reverse).take i).flatten).map λp=>.fz (ptD p)),o7],?_,?_,?_⟩
 .exact ⟨_,rfl⟩
 .rintro i d δ hd ⟨o7,rfl⟩
  obtain⟨l,hl,rfl⟩:=Ydd hd
  have hx:(((List.range (n+1)).map (grp n (Xn7 h w'))).reverse)[i]?=some (grp n (Xn7 h w') l):=by
   rw[<- map_reverse,getElem?_map,hl]
   rfl
  dsimp only
  rw[Xjy hx]
  have hlen:((((List.range (n+1)).map (grp n (Xn7 h w'))).reverse.take i).flatten).length+(grp n (Xn7 h w') l).length<=10000:=by
   rw[<- length_append,<- Xjy hx]
   have h1:((((List.range (n+1)).map (grp n (Xn7 h w'))).reverse.take (i+1)).flatten).length<=(Xe6 h w' n).length:=by
    unfold Xe6
    conv=>rhs;rw[<- List.take_append_drop (i+1) ((List.range (n+1)).map (grp n (Xn7 h w'))).reverse,List.flatten_append,length_append]
    omega
   rw[Xjn]at h1
   have h2:h*w'<=100*100:=mul_le_mul hh hw
   omega
  fin2
  refine⟨by omega,?_⟩
  rw[map_map,map_append]
  exact⟨_,rfl⟩
 .rintro δ ⟨o7,rfl⟩
  rw[length_map,length_reverse,length_range,take_of_length_le (by simp)]
  gp_on
  fin2
  exact k
theorem Xyr {i w:Nat}{p:Int×Int}:p∈Xku i w↔p.1=i/\0<=p.2/\p.2<w:=by
 unfold Xku
 rw[mem_map]
 constructor
 .rintro ⟨j,hj,rfl⟩
  have:=mem_range.mp hj
  exact⟨rfl,by show (0:Int)<=(j:Int);omega,by show (j:Int)<w;omega⟩
 .rintro ⟨h1,h2,h3⟩
  exact⟨p.2.toNat,mem_range.mpr (by omega),Prod.ext h1.symm (by show ((p.2.toNat:Nat):Int)=p.2;omega)⟩
theorem Yf4 {h w:Nat}{p:Int×Int}:p∈Xn7 h w↔(0<=p.1/\p.1<h)/\0<=p.2/\p.2<w:=by
 unfold Xn7
 rw[List.mem_flatMap]
 constructor
 .rintro ⟨i,hi,hp⟩
  have:=mem_range.mp hi
  obtain⟨h1,h2⟩:=Xyr.mp hp
  exact⟨by omega,h2⟩
 .rintro ⟨h1,h2⟩
  exact⟨p.1.toNat,mem_range.mpr (by omega),Xyr.mpr ⟨by omega,h2⟩⟩
theorem Xsz {h w n:Nat}{p:Int×Int}(hp:p∈Xe6 h w n):(0<=p.1/\p.1<h)/\0<=p.2/\p.2<w:=by
 unfold Xe6 at hp
 obtain⟨l,hl,hp⟩:=List.mem_flatten.mp hp
 rw[List.mem_reverse,mem_map]at hl
 obtain⟨k,_,rfl⟩:=hl
 exact Yf4.mp (mem_filter.mp hp).1
def Yha:D->Bool
 | .int _=>true
 |_=>false
def Ycz (w:Int):D->Bool
 | .lst xs=>decide ((xs.length:Int)=w) && xs.all Yha
 |_=>false
def Yan (n:Nat):Bool:=decide (1<=n) && decide (n<=64)
def Yfg:D->Bool
 | .lst (.lst r::rs)=>Yan (rs.length+1) && Yan r.length && (D.lst r::rs).all (Ycz r.length)
 |_=>false
def knD:D->Bool
 | .ty _=>false
 | .fn _=>false
 | .exc _=>false
 | .obj _ _ _=>false
 |_=>true
def okP (d:D):Prop:=knD d=true/\∀xs,d = .lst xs->xs.length<=1000/\∀x∈xs,knD x=true/\∀ys,x = .lst ys->ys.length<=1000/\∀y∈ys,knD y=true
abbrev Xdu:Stmt:=top 38
theorem Xqu:FnScope ["thing"] ["thing"] (Xac Xdu):=by walk_at "S"
def Xf4:DSp:=λds P=>∃d,ds=[d]/\knD d=true/\P (.fz (.bl (Yha d)))
theorem Xrn {f:Addr}{fd:FuncData}(Df:DefAt K mg "is_number" Xdu f fd)(B:BltV mg)(KV:KitV K)(CV_Walk:ClsV K "Walk" ns_Walk):
  Cal P w K mg base "is_number" 1 ["thing"] (spV K 1 Xf4):=by
 refine CalV.of Df Xqu (by walk_at "b") rfl (λc A o s H E hr=>⟨_,_,(Xaj (Xax (Xkb (Xap Xcx (by rfl) B.isinstance boot_isinstance (Xaa (pv 0) (Xaa (Xel (v:=.ty "int") (by rfl) B.int PyProof.Rows.boot_int (by rfl)) Xad))) (Xmx (Yc4 (Xap Xcx (by rfl) B.isinstance boot_isinstance (Xaa (pv 0) (Xaa (Xel (v:=.ty "bool") (by rfl) B.bool PyProof.Rows.boot_bool (by rfl)) Xad)))))))),
  (Xa1 (Xbf (Xg7 (Xbh (Xhs KV) (Xaf Xae (Xaf (Xaq Xks) Xam))) (Xxn (Xbh (Xhs KV) (Xaf Xae (Xaf (Xaq Xks) Xam))))))),?_⟩)
 rintro ds Pr ⟨d,rfl,hk,k⟩
 cases d<;>first | (simp[knD]at hk;done) | (fin2;exact k)
abbrev Xjk:Stmt:=top 15
theorem Yaq:FnScope ["one","number"] ["one","number"] (Xac Xjk):=by walk_at "S"
def Xgu:DSp:=λds P=>∃a b n:Int,ds=[.tup [.int a,.int b],.int n]/\P (.fz (.bl (decide (a<=n) && decide (n<=b))))
theorem Ybg {f:Addr}{fd:FuncData}(Df:DefAt K mg "holds" Xjk f fd)(B:BltV mg)(KV:KitV K)(CV_Walk:ClsV K "Walk" ns_Walk):
  Cal P w K mg base "holds" 1 ["one","number"] (spV K 2 Xgu):=by
 refine CalV.of Df Yaq (by walk_at "b") rfl (λc A o s H E hr=>⟨_,_,(Xaj (Xax (Ybc Yiz Yiz (Xbc Xa9 (pv 0) Xal (λ_ _=>rfl)) (pv 1) (Xbc Xa9 (pv 0) Xal (λ_ _=>rfl))))),
  (Xa1 (Xbf (Yax Xhu Xhu (Xca (OpF.b Xa8) Xae (Xaq Xai)) Xae (Xca (OpF.b Xa8) Xae (Xaq Xai))))),?_⟩)
 rintro ds Pr ⟨a,b,n,rfl,k⟩
 fin2
 by_cases h:a<=n
 .rw [if_pos h]
  rw[decide_eq_true h,Bool.true_and]at k
  exact k
 .rw [if_neg h]
  rw[decide_eq_false h,Bool.false_and]at k
  exact k
abbrev Xf8:Stmt:=top 60
theorem Xxc:FnScope ["thing","wide"] ["thing","wide"] (Xac Xf8):=by walk_at "S"
def Xqk:DSp:=λds P=>∃(d:D) (w:Int),ds=[d,.int w]/\knD d=true/\(∀xs,d = .lst xs->xs.length<=1000/\∀x∈xs,knD x=true)/\P (.fz (.bl (Ycz w d)))
theorem Xsm {α:Type}{f:α->Bool}{xs:List α}:(xs.map f).all id=xs.all f:=by simp[List.all_map,Function.comp_def]
theorem Xyi {f:Addr}{fd:FuncData}(Df:DefAt K mg "is_row" Xf8 f fd)(B:BltV mg)(KV:KitV K)(CV_Walk:ClsV K "Walk" ns_Walk)(Xcv:Cal P w K mg base "is_number" 1 ["thing"] (spV K 1 Xf4)):
  Cal P w K mg base "is_row" 2 ["thing","wide"] (spV K 2 Xqk):=by
 refine CalV.of Df Xxc (by walk_at "b") rfl (λc A o s H E hr=>⟨_,_,(Xag (Xcb (Xkt (Xdk (Xch (Xap Xcx (by rfl) B.isinstance boot_isinstance (Xaa (pv 0) (Xaa (Xel (v:=.ty "list") (by rfl) B.list PyProof.Rows.boot_list (by rfl)) Xad))))) (Xhr (Xbe Xrg (Xap Xaw (by rfl) B.len boot_len (Xaa (pv 0) Xad)) (pv 1) (Xbg _)))).pt (Xaj (Xax Xmy)) Xbb)
   (Xaj (Xax (Xap (Xik rfl) (by rfl) B.all boot_all (Xaa (Xda rfl (Xgf (pv 0)) (show BlkScope (Xac Xf8) _ from⟨rfl,by decide +kernel,by decide +kernel,by decide +kernel⟩) (N:=["number"]) (ix:=[none]) (show Xb2 _ _ _ _ from trivial) (λ_ _ _=>(Xa4 (i:=0) (show List.Nodup (["number"]:List Str) by decide +kernel) rfl (Or.inl rfl))) (λ_ _ _=>(Xa0 Xcv (hr.mono (by decide)) (by rfl) (Xaa (pv 0) Xad)))) Xad))))),
  (Xao (Xcg (Xkq (Xdi (Xkm (Xbh (Xhs KV) (Xaf Xae (Xaf (Xaq Xks) Xam))))) (Xbd (Xas Xru (Xaq (Xbh Xdb (Xaf Xae Xam))) Xae))) (Xa1 (Xbf Xmu)) Xba)
   (Xa1 (Xbf (Xbh Xsf (Xaf (Xaq (Xb8 (Xb3 (Xg5 Xah) Xa5 (Xau (Xab Xah Xak))))) Xam))))),?_⟩)
 rintro ds Pr ⟨d,w,rfl,hk,hx,k⟩
 cases d with
 |lst xs=>
  obtain⟨hl,hk2⟩:=hx xs rfl
  fin2
  simp only[Ycz]at k
  by_cases h:(xs.length:Int)=w
  .rw [decide_eq_true h]at k ⊢
   simp only[Bool.not_true,false_eq_true,if_false]
   rw[show xs=xs.map id by simp]
   refine Xix.map xs id (λx=>.fz (.bl (Yha x))) (by omega) (λx hx Q q=>?_) ?_
   .fin2
    exact⟨x,rfl,hk2 x hx,q⟩
   .fin2
    refine⟨xs.map Yha,by simp only[map_map,Function.comp_def,OV.val],?_⟩
    rw[Xsm]
    exact k
  .rw [decide_eq_false h]at k ⊢
   simp only[Bool.not_false,if_true]
   exact k
 |_=>first | (simp[knD]at hk;done) | (fin2;exact k)
abbrev Xck:Stmt:=top 61
theorem Xo6:FnScope ["thing"] ["thing"] (Xac Xck):=by walk_at "S"
def Xj2:DSp:=λds P=>∃d:D,ds=[d]/\okP d/\P (.fz (.bl (Yfg d)))
theorem Ycq {n:Nat}:(decide ((1:Int)<=(n:Int)) && decide ((n:Int)<=64))=Yan n:=by
 unfold Yan
 congr 1
 .exact decide_eq_decide.mpr (by omega)
 .exact decide_eq_decide.mpr (by omega)
theorem Xpl {f:Addr}{fd:FuncData}(Df:DefAt K mg "is_picture" Xck f fd)(B:BltV mg)(KV:KitV K)(CV_Walk:ClsV K "Walk" ns_Walk)(Xpv:Yac K mg "SIZES" (D.tup [.int 1,.int 64]))(Xep:Cal P w K mg base "holds" 1 ["one","number"] (spV K 2 Xgu))(Xp6:Cal P w K mg base "is_row" 2 ["thing","wide"] (spV K 2 Xqk)):
  Cal P w K mg base "is_picture" 3 ["thing"] (spV K 1 Xj2):=by
 refine CalV.of Df Xo6 (by walk_at "b") rfl (λc A o s H E hr=>⟨_,_,(Xag (Xcb (Xkt (Xdk (Xch (Xap Xcx (by rfl) B.isinstance boot_isinstance (Xaa (pv 0) (Xaa (Xel (v:=.ty "list") (by rfl) B.list PyProof.Rows.boot_list (by rfl)) Xad))))) (Xhr (Xdk (Xch (Xa0 Xep (hr.mono (by decide)) (by rfl) (Xaa (Xff (by rfl) Xpv) (Xaa (Xap Xaw (by rfl) B.len boot_len (Xaa (pv 0) Xad)) Xad))))))).pt (Xaj (Xax Xmy)) Xbb)
   (Xag (Xcb (Xkt (Xdk (Xch (Xap Xcx (by rfl) B.isinstance boot_isinstance (Xaa (Xbc Xbt (pv 0) Xal (λ_ _=>rfl)) (Xaa (Xel (v:=.ty "list") (by rfl) B.list PyProof.Rows.boot_list (by rfl)) Xad))))) (Xhr (Xdk (Xch (Xa0 Xep (hr.mono (by decide)) (by rfl) (Xaa (Xff (by rfl) Xpv) (Xaa (Xap Xaw (by rfl) B.len boot_len (Xaa (Xbc Xbt (pv 0) Xal (λ_ _=>rfl)) Xad)) Xad))))))).pt (Xaj (Xax Xmy)) Xbb)
   (Xaj (Xax (Xap (Xik rfl) (by rfl) B.all boot_all (Xaa (Xda rfl (Xgf (pv 0)) (show BlkScope (Xac Xck) _ from⟨rfl,by decide +kernel,by decide +kernel,by decide +kernel⟩) (N:=["row","thing"]) (ix:=[none,some 0]) (show Xb2 _ _ _ _ from⟨⟨rfl,rfl,.inl rfl⟩,trivial⟩) (λ_ _ _=>(Xa4 (i:=0) (show List.Nodup (["row","thing"]:List Str) by decide +kernel) rfl (Or.inl rfl))) (λ_ _ _=>(Xa0 Xp6 (hr.mono (by decide)) (by rfl) (Xaa (pv 0) (Xaa (Xap Xaw (by rfl) B.len boot_len (Xaa (Xbc Xbt (pv 1) Xal (λ_ _=>rfl)) Xad)) Xad))))) Xad)))))),
  (Xao (Xcg (Xkq (Xdi (Xkm (Xbh (Xhs KV) (Xaf Xae (Xaf (Xaq Xks) Xam))))) (Xdi (Xkm (Xb8 (Xau (Xab Xpc (Xab (Xbh Xdb (Xaf Xae Xam)) Xak))))))) (Xa1 (Xbf Xmu)) Xba)
   (Xao (Xcg (Xkq (Xdi (Xkm (Xbh (Xhs KV) (Xaf (Xca (OpF.b Xdh) Xae (Xaq Xai)) (Xaf (Xaq Xks) Xam))))) (Xdi (Xkm (Xb8 (Xau (Xab Xpc (Xab (Xbh Xdb (Xaf (Xca (OpF.b Xdh) Xae (Xaq Xai)) Xam)) Xak))))))) (Xa1 (Xbf Xmu)) Xba)
   (Xa1 (Xbf (Xbh Xsf (Xaf (Xaq (Xb8 (Xb3 (Xg5 Xah) Xa5 (Xau (Xab Xah (Xab (Xbh Xdb (Xaf (Xca (OpF.b Xdh) Xae (Xaq Xai)) Xam)) Xak)))))) Xam)))))),?_⟩)
 rintro ds Pr ⟨d,rfl,⟨hk,hx⟩,k⟩
 cases d with
 |lst xs=>
  obtain⟨hl,hk2⟩:=hx xs rfl
  fin2
  refine⟨1,64,_,rfl,?_⟩
  fin2
  rw[Ycq]
  cases xs with
  |nil=>exact k
  |cons x rs=>
   rw[show (x::rs).length=rs.length+1 from rfl]
   have kx:=hk2 x mem_cons_self
   by_cases hs:Yan (rs.length+1)=true
   .rw [hs]
    simp only[Bool.not_true,false_eq_true,if_false]
    refine⟨x,Yab,?_⟩
    cases x with
    |lst r=>
     fin2
     refine⟨1,64,_,rfl,?_⟩
     fin2
     rw[Ycq]
     simp only[Yfg,hs,Bool.true_and]at k
     by_cases hr:Yan r.length=true
     .rw [hr]
      rw[hr,Bool.true_and]at k
      simp only[Bool.not_true,false_eq_true,if_false]
      rw[show D.lst r::rs=(D.lst r::rs).map id by simp]
      refine Xix.map (D.lst r::rs) id (λx=>.fz (.bl (Ycz r.length x))) (by simp at hl ⊢;omega) (λx hx' Q q=>?_) ?_
      .fin2
       have:=hk2 x (by simpa using hx')
       simp only[List.map_id_fun',id_eq,map_cons,List.map_id,Yab]
       exact⟨x,_,rfl,this.1,this.2,q⟩
      .fin2
       refine⟨(D.lst r::rs).map (Ycz r.length),by simp only[map_map,map_cons,Function.comp_def,OV.val],?_⟩
       rw[Xsm]
       exact k
     .have hr':Yan r.length=false:=by simpa using hr
      rw[hr']
      rw[hr',Bool.false_and]at k
      simp only[Bool.not_false,if_true]
      exact k
    |_=>
     have kx1:=kx.1
     simp only[Yfg]at k
     first | (simp[knD]at kx1;done) | (fin2;exact k)
   .have hs':Yan (rs.length+1)=false:=by simpa using hs
    rw[hs']
    simp only[Bool.not_false,if_true]
    cases x<;>simp only[Yfg,hs',Bool.false_and]at k<;>exact k
 |_=>first | (simp[knD]at hk;done) | (fin2;exact k)
theorem Yg6 {xs:List Int}:(xs.map D.int).all Yha=true:=by simp[Yha]
theorem Xt8 {w:Nat}{f:Nat->Int}:(tab w λj=>D.int (f j))=(tab w f).map D.int:=by rw[Xhw]
theorem Xxr {xs:List Int}{w:Int}:Ycz w (.lst (xs.map D.int))=decide ((xs.length:Int)=w):=by
 simp only[Ycz,Yg6,Bool.and_true,length_map]
theorem Xx1 {h w:Nat}{e:Nat->Nat->Int}(h0:0<h)(w0:0<w):Yfg (.lst (shV D.int h w e))=(decide (h<=64) && decide (w<=64)):=by
 obtain⟨h',rfl⟩:∃h',h=h'+1:=⟨h-1,by omega⟩
 have e1:shV D.int (h'+1) w e=D.lst (tab w λj=>D.int (e 0 j))::(List.range h').map λi=>D.lst (tab w λj=>D.int (e (i+1) j)):=by
  unfold shV
  conv=>lhs;unfold tab
  rw[List.range_succ_eq_map,map_cons,map_map]
  rfl
 have e2:(shV D.int (h'+1) w e).all (Ycz w)=true:=by
  rw[all_eq_true]
  intro x hx
  obtain⟨i,_,rfl⟩:=mem_map.mp hx
  rw[Xt8,Xxr,Xbr]
  simp
 rw[e1]at e2 ⊢
 simp only[Yfg,Xbr,e2,Bool.and_true,length_map,length_range]
 unfold Yan
 rw[decide_eq_true (show 1<=h'+1 by omega),decide_eq_true (show 1<=w by omega),Bool.true_and,Bool.true_and]
theorem Ybi {xs:List D}(hl:xs.length<=1000)(h:∀x∈xs,knD x=true/\∀ys,x = .lst ys->ys.length<=1000/\∀y∈ys,knD y=true):okP (.lst xs):=⟨rfl,λxs' e=>by cases e;exact⟨hl,h⟩⟩
theorem Yi1 {ls:List Int}(hl:ls.length<=1000):knD (D.lst (ls.map D.int))=true/\∀ys,D.lst (ls.map D.int) = .lst ys->ys.length<=1000/\∀y∈ys,knD y=true:=⟨rfl,λys e=>by
 cases e
 refine⟨by simpa using hl,λy hy=>?_⟩
 obtain⟨i,_,rfl⟩:=mem_map.mp hy
 rfl⟩
theorem Xyk {h w:Nat}{e:Nat->Nat->Int}(hh:h<=100)(hw:w<=100):okP (.lst (shV D.int h w e)):=by
 refine Ybi (by rw[shV,Xbr];omega) λy hy=>?_
 obtain⟨k,_,rfl⟩:=mem_map.mp hy
 rw[Xt8]
 exact Yi1 (by rw[Xbr];omega)
abbrev Ylo:List (Str×D):=[("still",.tup []),("pair",.tup [.tup [.int 1,.int (-1),.int 0,.int 0,.int 0],.tup [.int 0,.int 0,.int 1,.int 0,.int 1]]),("line",.tup [.tup [.int 1,.int (-1),.int (-1),.int 1,.int 1],.tup [.int 0,.int 1,.int 1,.int 2,.int 2]]),("long",.tup [.tup [.int 1,.int (-1),.int (-1),.int 1,.int 1],.tup [.int 0,.int 1,.int 1,.int 2,.int 2],.tup [.int 1,.int (-1),.int (-1),.int 4,.int 3]])]
def Xh1:DSp:=λds P=>∃k d,ds=[.str k]/\Ylo.lookup k=some d/\P (.fz d)
abbrev Xdt:Stmt:=top 53
theorem Xqt:FnScope ["name"] ["name"] (Xac Xdt):=by walk_at "S"
theorem Xrm {f:Addr}{fd:FuncData}(Df:DefAt K mg "ladder_of" Xdt f fd)(B:BltV mg)(KV:KitV K)(CV_Walk:ClsV K "Walk" ns_Walk)(Xki:Ykr w K mg "LADDERS" [("still",.tup []),("pair",.tup [.tup [.int 1,.int (-1),.int 0,.int 0,.int 0],.tup [.int 0,.int 0,.int 1,.int 0,.int 1]]),("line",.tup [.tup [.int 1,.int (-1),.int (-1),.int 1,.int 1],.tup [.int 0,.int 1,.int 1,.int 2,.int 2]]),("long",.tup [.tup [.int 1,.int (-1),.int (-1),.int 1,.int 1],.tup [.int 0,.int 1,.int 1,.int 2,.int 2],.tup [.int 1,.int (-1),.int (-1),.int 4,.int 3]])]):
  Cal P w K mg base "ladder_of" 1 ["name"] (spV K 1 Xh1):=by
 refine CalV.of Df Xqt (by walk_at "b") rfl (λc A o s H E hr=>⟨_,_,(Xag (Xcb (Yin (Xx8 (by rfl) Xki (pv 0))) (Xaj Xga) Xbb)
   (Xaj (Xax (Yfm (by rfl) Xki (pv 0) (λ_ _=>rfl))))),
  (Xao (Xcg (Xkm (Xxo Xah)) Xf9 Xba)
   (Xa1 (Xbf (Yey Xah)))),?_⟩)
 rintro ds Pr ⟨k,d,rfl,hk,h⟩
 fin2
 have hn:(Ylo.lookup k).isNone=false:=by rw[hk];rfl
 rw[show (List.lookup k _).isNone=false from hn]
 rw[if_neg Bool.false_ne_true]
 exact⟨d,hk,h⟩
def Xoh:DSp:=λds P=>∃f:Lf,ds=[lfD f]/\f.Ok/\P (.fz (.bl true))
def Xh2:DSp:=λds P=>∃fs:List Lf,ds=[Xll fs]/\fs.length<=6/\(∀f∈fs,f.Ok)/\P (.fz (.bl true))
def Xko:DSp:=λds P=>∃n at':Nat,ds=[.int n,.int at']/\((at'=0/\1<=n/\n<=64)∨(at'=1/\1<=n/\n<=64)∨(at'=2/\n<=6)∨(at'=3/\n<=4000))/\P (.fz (.bl true))
def Xkx (h w:Nat)(e:Nat->Nat->Int)(fs:List Lf)(L:Nat):List Int:=(Xe6 h w L).map λp=>Ybr 0 (λk=>Xce fs (2^k:Nat)) h w L e p.1.toNat p.2.toNat
def Xt0:DSp:=λds P=>∃(h w:Nat) (e:Nat->Nat->Int) (fs:List Lf) (L b:Nat),ds=[shI h w e,Xll fs,.int L]/\fs.length<=6/\(∀f∈fs,f.Ok)/\L<=6/\0<h/\h<=64/\0<w/\w<=64/\b<=4000/\(∀x∈Xkx h w e fs L,ibN x<=b)/\3*(h*w)*b<=900000/\
 ∀(n:Nat) (bs:List Bool) (v:Wk),(∃x∈Xkx h w e fs L,ibN x=n)->(∀x∈Xkx h w e fs L,ibN x<=n)->n<=b->Tell (Xkx h w e fs L) (Wk.turn ⟨n,0,[],[⟨0,0,(Xkx h w e fs L).length,1-2^n,2^n-1⟩],[]⟩) bs->Fol (Wk.turn ⟨n,0,[],[⟨0,0,(Xkx h w e fs L).length,1-2^n,2^n-1⟩],[]⟩) bs v->v.pl<0->Shp (Xkx h w e fs L).length v->Xhp (Xkx h w e fs L) v->v.us=bs.length->bs.length<=900000->
  P (.fz (.tup [.tup [.int h,.int w,.int L,.int n,Xll fs],.str (Xcf bs)]))
abbrev Xe1:Stmt:=top 51
theorem Xve:FnScope ["thing"] ["thing"] (Xac Xe1):=by walk_at "S"
abbrev Xc8:Stmt:=top 52
theorem Xqv:FnScope ["thing"] ["thing"] (Xac Xc8):=by walk_at "S"
abbrev Xfs:Stmt:=top 73
theorem Xvd:FnScope ["thing","at"] ["thing","at"] (Xac Xfs):=by walk_at "S"
abbrev Xjl:Stmt:=top 76
theorem Xg0:FnScope ["picture","ladder","levels","lifts","wave","high","wide","numbers","planes"] ["picture","ladder","levels"] (Xac Xjl):=by walk_at "S"
def trD (q:Int×Int×Int):D:=.tup [.int q.1,.tup [.int q.2.1,.int q.2.2]]
theorem Xvs {f:Addr}{fd:FuncData}(Df:DefAt K mg "is_lift" Xe1 f fd)(B:BltV mg)(KV:KitV K)(CV_Walk:ClsV K "Walk" ns_Walk)(Xgc:Yac K mg "PART_SPANS" (D.tup [.tup [.int 0,.int 1],.tup [.int (-8),.int 8],.tup [.int (-8),.int 8],.tup [.int (-64),.int 64],.tup [.int 0,.int 8]]))(Xcv:Cal P w K mg base "is_number" 1 ["thing"] (spV K 1 Xf4))(Xep:Cal P w K mg base "holds" 1 ["one","number"] (spV K 2 Xgu)):
  Cal P w K mg base "is_lift" 2 ["thing"] (spV K 1 Xoh):=by
 refine CalV.of Df Xve (by walk_at "b") rfl (λc A o s H E hr=>⟨_,_,(Xag (Xcb (Xkt (Xdk (Xch (Xap Xcx (by rfl) B.isinstance boot_isinstance (Xaa (pv 0) (Xaa (Xel (v:=.ty "tuple") (by rfl) B.tuple PyProof.Rows.boot_tuple (by rfl)) Xad))))) (Xhr (Xbe Xrg (Xap Xaw (by rfl) B.len boot_len (Xaa (pv 0) Xad)) (Xap Xaw (by rfl) B.len boot_len (Xaa (Xff (by rfl) Xgc) Xad)) (Xbg _)))).pt (Xaj (Xax Xmy)) Xbb)
   (Xaj (Xax (Xap (Xik rfl) (by rfl) B.all boot_all (Xaa (Xda rfl (Yfh rfl B.zip (Xaa (pv 0) (Xaa (Xff (by rfl) Xgc) Xad))) (show BlkScope (Xac Xe1) _ from⟨rfl,by decide +kernel,by decide +kernel,by decide +kernel⟩) (N:=["part","span"]) (ix:=[none,none]) (show Xb2 _ _ _ _ from trivial) (λ_ _ _=>(Xuh (n:=2) rfl (Xfe (Xa4 (i:=0) (show List.Nodup (["part","span"]:List Str) by decide +kernel) rfl (Or.inl rfl)) (Xfe (Xa4 (i:=1) (show List.Nodup (["part","span"]:List Str) by decide +kernel) rfl (Or.inl rfl)) Xpg)))) (λ_ _ _=>(Xkb (Xa0 Xcv (hr.mono (by decide)) (by rfl) (Xaa (pv 0) Xad)) (Xmx (Xa0 Xep (hr.mono (by decide)) (by rfl) (Xaa (pv 1) (Xaa (pv 0) Xad))))))) Xad))))),
  (Xao (Xcg (Xkq (Xdi (Xkm (Xbh (Xhs KV) (Xaf Xae (Xaf (Xaq Xks) Xam))))) (Xbd (Xas Xru (Xaq (Xbh Xdb (Xaf Xae Xam))) (Xaq (Xbh Xdb (Xaf (Xaq Xpc) Xam)))))) (Xa1 (Xbf Xmu)) Xba)
   (Xa1 (Xbf (Xbh Xsf (Xaf (Xaq (Xb8 (Xb3 (Yet (Xab Xah (Xab Xpc Xak))) (Xt6 (Xfd Xa5 (Xfd Xa5 Xpb))) (Xbf (Xg7 (Xb8 (Xau (Xab Xah Xak))) (Xb8 (Xau (Xab Xah (Xab Xah Xak))))))))) Xam))))),?_⟩)
 rintro ds Pr ⟨f,rfl,ok,h⟩
 unfold lfD
 fin2
 have ez:List.map (λ(p:D×D)=>D.tup [p.fst,p.snd]) ([D.int f.h,D.int f.l,D.int f.r,D.int f.a,D.int f.s].zip [D.tup [D.int 0,D.int 1],D.tup [D.int (-8),D.int 8],D.tup [D.int (-8),D.int 8],D.tup [D.int (-64),D.int 64],D.tup [D.int 0,D.int 8]])=[(f.h,0,1),(f.l,-8,8),(f.r,-8,8),(f.a,-64,64),(f.s,0,8)].map trD:=rfl
 rw[ez]
 have hq:∀q∈[(f.h,(0:Int),(1:Int)),(f.l,-8,8),(f.r,-8,8),(f.a,-64,64),(f.s,0,8)],q.2.1<=q.1/\q.1<=q.2.2:=by
  intro q hq
  simp only[mem_cons,not_mem_nil,or_false]at hq
  have h1:=ok.h
  rcases hq with rfl |rfl |rfl |rfl |rfl
  .exact ⟨by show 0<=f.h;omega,by show f.h<=1;omega⟩
  .exact ok.l
  .exact ok.r
  .exact ok.a
  .exact ok.s
 generalize hqs:[(f.h,(0:Int),(1:Int)),(f.l,-8,8),(f.r,-8,8),(f.a,-64,64),(f.s,0,8)]=qs at hq
 have hql:qs.length<=5:=by rw[<- hqs];exact Nat.le_refl 5
 refine⟨λi δ ts=>∃o0 o1:Option Sl,δ=[o0,o1]/\ts=(qs.take i).map λ_=>.fz (.bl true),⟨none,none,rfl,rfl⟩,?_,?_⟩
 .rintro i d δ ts hd ⟨o0,o1,rfl,rfl⟩
  obtain⟨q,hq',rfl⟩:=Ydd hd
  have hb:=hq q (mem_of_getElem? hq')
  simp only[trD,gT,Xr5,Xy3,gN,length_cons,length_nil,Nat.reduceAdd,true_and,set_cons_succ,set_cons_zero]
  fin2
  refine⟨by rw[length_take];omega,_,rfl,rfl,?_⟩
  show if true=true then _ else _
  rw[if_pos rfl]
  refine⟨_,_,_,rfl,?_⟩
  rw[decide_eq_true hb.1,decide_eq_true hb.2]
  refine⟨some (Sl.own (OV.fz (D.int q.1))),some (Sl.own (OV.fz (D.tup [D.int q.2.1,D.int q.2.2]))),rfl,?_⟩
  rw[List.take_add_one,hq',map_append]
  rfl
 .rintro δ ts ⟨o0,o1,rfl,rfl⟩
  fin2
  refine⟨qs.map λ_=>true,by rw[take_length,map_map,map_map];rfl,?_⟩
  rw[show (qs.map λ_=>true).all id=true by simp]
  exact h
theorem Xro {f:Addr}{fd:FuncData}(Df:DefAt K mg "is_ladder" Xc8 f fd)(B:BltV mg)(KV:KitV K)(CV_Walk:ClsV K "Walk" ns_Walk)(Xie:∃t,mg "MOST_LIFTS"=some (.int 6 t))(Xnj:Cal P w K mg base "is_lift" 2 ["thing"] (spV K 1 Xoh)):
  Cal P w K mg base "is_ladder" 3 ["thing"] (spV K 1 Xh2):=by
 refine CalV.of Df Xqv (by walk_at "b") rfl (λc A o s H E hr=>⟨_,_,(Xag (Xcb (Xkt (Xdk (Xch (Xap Xcx (by rfl) B.isinstance boot_isinstance (Xaa (pv 0) (Xaa (Xel (v:=.ty "tuple") (by rfl) B.tuple PyProof.Rows.boot_tuple (by rfl)) Xad))))) (Xhr (Xbe Ybe (Xap Xaw (by rfl) B.len boot_len (Xaa (pv 0) Xad)) (Xat (by rfl) Xie) (Xbg _)))).pt (Xaj (Xax Xmy)) Xbb)
   (Xaj (Xax (Xap (Xik rfl) (by rfl) B.all boot_all (Xaa (Xda rfl (Xli (pv 0)) (show BlkScope (Xac Xc8) _ from⟨rfl,by decide +kernel,by decide +kernel,by decide +kernel⟩) (N:=["lift"]) (ix:=[none]) (show Xb2 _ _ _ _ from trivial) (λ_ _ _=>(Xa4 (i:=0) (show List.Nodup (["lift"]:List Str) by decide +kernel) rfl (Or.inl rfl))) (λ_ _ _=>(Xa0 Xnj (hr.mono (by decide)) (by rfl) (Xaa (pv 0) Xad)))) Xad))))),
  (Xao (Xcg (Xkq (Xdi (Xkm (Xbh (Xhs KV) (Xaf Xae (Xaf (Xaq Xks) Xam))))) (Xbd (Xas Xhu (Xaq (Xbh Xdb (Xaf Xae Xam))) (Xaq Xai)))) (Xa1 (Xbf Xmu)) Xba)
   (Xa1 (Xbf (Xbh Xsf (Xaf (Xaq (Xb8 (Xb3 (Xlg Xah) Xa5 (Xau (Xab Xah Xak))))) Xam))))),?_⟩)
 rintro ds Pr ⟨fs,rfl,hl,ok,h⟩
 unfold Xll
 fin2
 rw[if_neg (by omega)]
 refine Xix.map fs lfD (λ_=>.fz (.bl true)) (by omega) (λf hf Q q=>?_) ?_
 .fin2
  exact⟨f,rfl,ok f hf,q⟩
 fin2
 refine⟨fs.map λ_=>true,by simp only[map_map,Function.comp_def,OV.val],?_⟩
 rw[show (fs.map λ_=>true).all id=true by simp]
 exact h
theorem Xvr {f:Addr}{fd:FuncData}(Df:DefAt K mg "is_part" Xfs f fd)(B:BltV mg)(KV:KitV K)(CV_Walk:ClsV K "Walk" ns_Walk)(Xcd:Yac K mg "NUMBER_SPANS" (D.tup [.tup [.int 1,.int 64],.tup [.int 1,.int 64],.tup [.int 0,.int 6],.tup [.int 0,.int 4000]]))(Xcv:Cal P w K mg base "is_number" 1 ["thing"] (spV K 1 Xf4))(Xep:Cal P w K mg base "holds" 1 ["one","number"] (spV K 2 Xgu)):
  Cal P w K mg base "is_part" 2 ["thing","at"] (spV K 2 Xko):=by
 refine CalV.of Df Xvd (by walk_at "b") rfl (λc A o s H E hr=>⟨_,_,(Xaj (Xax (Xkb (Xa0 Xcv (hr.mono (by decide)) (by rfl) (Xaa (pv 0) Xad)) (Xmx (Xa0 Xep (hr.mono (by decide)) (by rfl) (Xaa (Xbc Xa9 (Xff (by rfl) Xcd) (pv 1) (λ_ _=>rfl)) (Xaa (pv 0) Xad))))))),
  (Xa1 (Xbf (Xg7 (Xb8 (Xau (Xab Xah Xak))) (Xb8 (Xau (Xab (Xbs Xa8 Xpc Xah) (Xab Xah Xak))))))),?_⟩)
 rintro ds Pr ⟨n,at',rfl,hn,h⟩
 have key:∀(lo hi:Int),lo<=n->n<=hi->atI [D.tup [D.int 1,D.int 64],D.tup [D.int 1,D.int 64],D.tup [D.int 0,D.int 6],D.tup [D.int 0,D.int 4000]] (at':Int)=some (.tup [.int lo,.int hi])->∃d,atI [D.tup [D.int 1,D.int 64],D.tup [D.int 1,D.int 64],D.tup [D.int 0,D.int 6],D.tup [D.int 0,D.int 4000]] (at':Int)=some d/\Xgu [d,.int n] λr=>Pr (.fz r.val):=λlo hi h1 h2 e=>by
  refine⟨_,e,lo,hi,n,rfl,?_⟩
  rw[decide_eq_true h1,decide_eq_true h2]
  exact h
 fin2
 refine⟨_,rfl,rfl,?_⟩
 show if true=true then _ else _
 rw[if_pos rfl]
 rcases hn with⟨rfl,h1,h2⟩ | ⟨rfl,h1,h2⟩ | ⟨rfl,h2⟩ | ⟨rfl,h2⟩
 .exact key 1 64 (by omega) (by omega) rfl
 .exact key 1 64 (by omega) (by omega) rfl
 .exact key 0 6 (by omega) (by omega) rfl
 .exact key 0 4000 (by omega) (by omega) rfl
theorem Ybh {f:Addr}{fd:FuncData}{T:Addr}{tk1:Tok}(Df:DefAtD K mg "coded" Xjl f fd T #[.none,.int 2 tk1])(B:BltV mg)(KV:KitV K)(CV_Walk:ClsV K "Walk" ns_Walk)(Xpy:∃t,mg "LEVELS"=some (.int 2 t))(Xio:Cal P w K mg base "is_picture" 3 ["thing"] (spV K 1 Xj2))(Xen:Cal P w K mg base "ladder_of" 1 ["name"] (spV K 1 Xh1))(Xeo:Cal P w K mg base "is_ladder" 3 ["thing"] (spV K 1 Xh2))(Xgs:Cal P w K mg base "is_part" 2 ["thing","at"] (spV K 2 Xko))(Xz5:Cal P w K mg base "laid" 5 ["picture","ladder","levels"] (spV K 3 Xw6))(Xp4:Cal P w K mg base "places" 2 ["high","wide","levels"] (spV K 3 Xqi))(Xjt:Cal P w K mg base "planes_of" 2 ["some"] (spV K 1 Xlc))(Xz4:Cal P w K mg base "told" 5 ["some","planes"] (spV K 2 Xw5)):
  CalD P w K mg base "coded" 6 ["picture","ladder","levels"] (spV K 3 Xt0) [.non,.int 2]:=by
 refine CalVD.of (ds:=[.none,.int 2 tk1]) Df Xg0 (λ_ _ _ _ _ _ us hl=>match us,hl with | [_,_,_],_=>⟨_,rfl,rfl⟩) (λ_ _ _ _ _ _ us hl=>by have hl':us.length=1:=(by simpa using hl);exact match us,hl' with | [_],_=>⟨_,rfl,rfl⟩) (.cons rfl (.cons ⟨_,rfl⟩ (.nil))) rfl (λc A o s H E hr=>⟨_,_,(Xag (Xcb (Xdk (Xch (Xa0 Xio (hr.mono (by decide)) (by rfl) (Xaa (pv 0) Xad)))) (Xaj Xga) Xbb)
   (Xag (Xa6 (i:=3) Xg0.nd rfl (Or.inl rfl) (Xph (Xbe Yi0 (pv 1) Xx4 (Xbg _)) (Xa0 Xen (hr.mono (by decide)) (by rfl) (Xaa Xb0 Xad)) (pv 1)))
   (Xag (Xcb (Xdk (Xch (Xa0 Xeo (hr.mono (by decide)) (by rfl) (Xaa (pv 3) Xad)))) (Xaj Xga) Xbb)
   (Xag (Xcb (Xdk (Xch (Xa0 Xgs (hr.mono (by decide)) (by rfl) (Xaa (pv 2) (Xaa (Xat (by rfl) Xpy) Xad))))) (Xaj Xga) Xbb)
   (Xag (Xa6 (i:=4) Xg0.nd rfl (Or.inr rfl) (Xa0 Xz5 (hr.mono (by decide)) (by rfl) (Xaa (pv 0) (Xaa (pv 3) (Xaa (pv 2) Xad)))))
   (Xag (Xa6 (i:=5) Xg0.nd rfl (Or.inl rfl) (Xap Xaw (by rfl) B.len boot_len (Xaa (pv 0) Xad)))
   (Xag (Xa6 (i:=6) Xg0.nd rfl (Or.inl rfl) (Xap Xaw (by rfl) B.len boot_len (Xaa (Xbc Xbt (pv 0) Xal (λ_ _=>rfl)) Xad)))
   (Xag (Xgq (i:=7) Xg0.nd rfl (Or.inl rfl) rfl (Xgf (Xa0 Xp4 (hr.mono (by decide)) (by rfl) (Xaa (pv 5) (Xaa (pv 6) (Xaa (pv 2) Xad))))) (show BlkScope (Xac Xjl) _ from⟨rfl,by decide +kernel,by decide +kernel,by decide +kernel⟩) (N:=["i","j","wave"]) (ix:=[none,none,some 4]) (show Xb2 _ _ _ _ from⟨⟨rfl,rfl,.inl rfl⟩,trivial⟩) (λ_ _ _=>(Xuh (n:=2) rfl (Xfe (Xa4 (i:=0) (show List.Nodup (["i","j","wave"]:List Str) by decide +kernel) rfl (Or.inl rfl)) (Xfe (Xa4 (i:=1) (show List.Nodup (["i","j","wave"]:List Str) by decide +kernel) rfl (Or.inl rfl)) Xpg)))) (λ_ _ _=>(Xbc Xbt (Xbc Xbt (pv 2) (pv 0) (λ_ _=>rfl)) (pv 1) (λ_ _=>rfl))))
   (Xag (Xa6 (i:=8) Xg0.nd rfl (Or.inl rfl) (Xa0 Xjt (hr.mono (by decide)) (by rfl) (Xaa (pv 7) Xad)))
   (Xaj (Xax (Xcc (Xaa (Xcc (Xaa (pv 5) (Xaa (pv 6) (Xaa (pv 2) (Xaa (pv 8) (Xaa (pv 3) Xad)))))) (Xaa (Xa0 Xz4 (hr.mono (by decide)) (by rfl) (Xaa (pv 7) (Xaa (pv 8) Xad))) Xad)))))))))))))),
  (Xao (Xcg (Xdi (Xkm (Xb8 (Xau (Xab Xah Xak))))) Xf9 Xba)
   (Xao (Xa2 (Xbf (Yex (Xbd (Xas Yi3 Xae (Xaq Xxp))) (Xb8 (Xau (Xab Xbk Xak))) Xah)))
   (Xao (Xcg (Xdi (Xkm (Xb8 (Xau (Xab Xah Xak))))) Xf9 Xba)
   (Xao (Xcg (Xdi (Xkm (Xb8 (Xau (Xab Xah (Xab Xai Xak)))))) Xf9 Xba)
   (Xao (Xa2 (Xbf (Xb8 (Xau (Xab Xah (Xab Xah (Xab Xah Xak)))))))
   (Xao (Xa2 (Xbf (Xbh Xdb (Xaf Xae Xam))))
   (Xao (Xa2 (Xbf (Xbh Xdb (Xaf (Xca (OpF.b Xdh) Xae (Xaq Xai)) Xam))))
   (Xao (Xa2 (Xbf (Xb8 (Xb3 (Xg5 (Xb8 (Xau (Xab Xah (Xab Xah (Xab Xah Xak)))))) (Xt6 (Xfd Xa5 (Xfd Xa5 Xpb))) (Xbf (Xbs Xdh (Xbs Xdh Xah Xah) Xah))))))
   (Xao (Xa2 (Xbf (Xb8 (Xau (Xab Xah Xak)))))
   (Xa1 (Xbf (Xdj (Xab (Xdj (Xab Xah (Xab Xah (Xab Xah (Xab Xah (Xab Xah Xak)))))) (Xab (Xb8 (Xau (Xab Xah (Xab Xah Xak)))) Xak)))))))))))))),?_⟩)
 rintro ds Pr ⟨h,w,e,fs,L,b,rfl,hl,ok,hL,h0,hh,w0,hw,hb,hxb,hmul,k⟩
 gn_on
 refine⟨_,rfl,Xyk (by omega) (by omega),?_⟩
 have hpic:Yfg (shI h w e)=true:=by
  unfold shI
  rw[Xx1 h0 w0,decide_eq_true hh,decide_eq_true hw]
  rfl
 rw[hpic]
 show if (!true)=true then _ else _
 rw[if_neg (by decide)]
 gp_on
 gn_on
 rw[if_neg (by unfold Xll;exact Bool.false_ne_true)]
 gp_on
 gn_on
 refine⟨fs,rfl,hl,ok,?_⟩
 show if (!true)=true then _ else _
 rw[if_neg (by decide)]
 gp_on
 gn_on
 refine⟨L,2,rfl,.inr (.inr (.inl ⟨rfl,hL⟩)),?_⟩
 show if (!true)=true then _ else _
 rw[if_neg (by decide)]
 gp_on
 gn_on
 refine⟨h,w,e,fs,L,rfl,ok,hL,h0,by omega,by omega,?_⟩
 fin2
 rw[Xmf]
 gp_on
 unfold shI
 gn_on
 gp_on
 gn_on
 have hat:atI (shV D.int h w e) 0=some (.lst (tab w λj=>D.int (e 0 j))):=by
  unfold shV
  exact Xk6 (by decide) (by omega)
 have hlen:(shV D.int h w e).length=h:=by unfold shV;exact Xbr
 refine⟨_,hat,?_⟩
 fin2
 rw[hlen,Xbr]
 gp_on
 gn_on
 refine⟨h,w,L,rfl,⟨by omega,by omega,by omega⟩,?_⟩
 have hpl:=Xjn (h:=h) (w:=w) (n:=L)
 have hmem:∀p∈Xe6 h w L,(0<=p.1/\p.1<h)/\0<=p.2/\p.2<w:=λp hp=>Xsz hp
 have hhw:h*w<=4096:=mul_le_mul hh hw
 have hhw0:0<h*w:=mul_pos h0 w0
 fin2
 have ev:List.map OV.val (List.map (λp=>OV.fz (ptD p)) (Xe6 h w L))=(Xe6 h w L).map ptD:=by rw[map_map];rfl
 rw[ev]
 unfold Xkx at k hxb
 generalize hlay:Ybr 0 (λk=>Xce fs ((2^k:Nat):Int)) h w L e=ly at k hxb
 generalize Xe6 h w L=ps at k hpl hmem hxb
 refine⟨λi δ ts=>∃o0 o1:Option Sl,δ=[o0,o1,vD (.lst (shV D.int h w ly))]/\ts=(ps.take i).map λp=>.fz (.int (ly p.1.toNat p.2.toNat)),⟨none,none,rfl,rfl⟩,?_,?_⟩
 .rintro i d δ ts hd ⟨o0,o1,rfl,rfl⟩
  obtain⟨p,hp,rfl⟩:=Ydd hd
  have hi:=(List.getElem?_eq_some_iff.mp hp).1
  obtain⟨⟨p0,p1⟩,p2,p3⟩:=hmem p (mem_of_getElem? hp)
  simp only[ptD,gT,Xr5,Xy3,gN,length_cons,length_nil,Nat.reduceAdd,true_and,set_cons_succ,set_cons_zero]
  fin2
  have hr1:atI (shV D.int h w ly) p.1=some (.lst (tab w λj=>D.int (ly p.1.toNat j))):=by unfold shV;exact Xk6 p0 p1
  refine⟨by rw[length_take];(clear hl hL hb hmul hlen p0 p1 p2 p3;omega),_,hr1,?_⟩
  refine⟨_,Xk6 p2 p3,?_⟩
  refine⟨some (Sl.own (OV.fz (D.int p.1))),some (Sl.own (OV.fz (D.int p.2))),rfl,?_⟩
  rw[List.take_add_one,hp,map_append]
  rfl
 .rintro δ ts ⟨o0,o1,rfl,rfl⟩
  rw[length_map,take_length]
  fin2
  have exs:(List.map OV.val (ps.map λp=>OV.fz (.int (ly p.1.toNat p.2.toNat))))=(ps.map λp=>ly p.1.toNat p.2.toNat).map D.int:=by rw[map_map,map_map];rfl
  rw[exs]
  have hxl:(ps.map λp=>ly p.1.toNat p.2.toNat).length=h*w:=by rw[length_map,hpl]
  generalize (ps.map λp=>ly p.1.toNat p.2.toNat)=xs at k hxl hxb
  gp_on
  gn_on
  refine⟨xs,rfl,by omega,by omega,λn hn1 hn2=>?_⟩
  gp_on
  have hn0:n<=b:=by
   obtain⟨x,hx,e⟩:=hn1
   rw[<- e];exact hxb x hx
  have hlt:∀x∈xs,x.natAbs<2^n:=λx hx=>Nat.lt_of_not_le λz=>by
   have:=Ygi.mp z
   have:=hn2 x hx
   omega
  obtain⟨q1,q2,q3,q4⟩:=Xma xs.length n
  obtain⟨bs,v,t1,t2,t3,t4,t5,t6,t7⟩:=Yak (xs:=xs) rfl (by (clear hl hL hb hmul hlen hn0;omega)) (by (clear hl hL hb hmul hlen hn0;omega)) _ _ (Nat.le_refl _) (Xl9 (by (clear hl hL hb hmul hlen hn0;omega)) n) (Xu9 hlt) (by omega) (by rw[q2,length_nil];omega)
  have hbs:bs.length<=900000:=by
   have:3*xs.length*n<=3*(h*w)*b:=by rw[hxl];exact Nat.mul_le_mul_left _ hn0
   clear hl hL hlen hpl;omega
  fin2
  refine⟨xs,n,bs,rfl,by omega,by omega,hbs,t1,?_⟩
  exact k n bs v hn1 hn2 hn0 t1 t2 t3 t4 t5 (by rw[t7,q3];(clear hl hlen hpl t3 t7;omega)) hbs
theorem Yfy {fs:List Lf}(ok:∀f∈fs,f.Ok){h w b:Nat}(hb:6<=b){e:Nat->Nat->Int}(he:∀i j,-2^b<=e i j/\e i j<=2^b)(L:Nat):∀x∈Xkx h w e fs L,ibN x<=b+10*fs.length*L+1:=λx hx=>by
 obtain⟨p,_,rfl⟩:=mem_map.mp hx
 have h1:=Yde ok (h:=h) (w:=w) hb he L p.1.toNat p.2.toNat
 have h2:=Xyb (b+10*fs.length*L)
 have h3:=Ybd (b+10*fs.length*L)
 exact Yjo (by omega) (by omega)
abbrev Xcq:Stmt:=top 95
theorem Xnu:FnScope ["_law_script","_law_k"] ["_law_script","_law_k"] (Xac Xcq):=by walk_at "S"
def Xi8:DSp:=λds P=>∃(ns:List Int) (k:Int),ds=[.lst (ns.map .int),.int k]/\0<=k/\P (.fz (.int (ns.getD k.toNat 0)))
theorem Xn2 {f:Addr}{fd:FuncData}(Df:DefAt K mg "_law_cell_at" Xcq f fd)(B:BltV mg)(KV:KitV K)(CV_Walk:ClsV K "Walk" ns_Walk):
  Cal P w K mg base "_law_cell_at" 1 ["_law_script","_law_k"] (spV K 2 Xi8):=by
 refine CalV.of Df Xnu (by walk_at "b") rfl (λc A o s H E hr=>⟨_,_,(Xag (Xcb (Xbe Xrh (pv 1) (Xap Xaw (by rfl) B.len boot_len (Xaa (pv 0) Xad)) (Xbg _)) (Xaj (Xax (Xbc Xbt (pv 0) (pv 1) (λ_ _=>rfl)))) Xbb)
   (Xaj (Xax Xal))),
  (Xao (Xcg (Xbd (Xas Xhu Xae (Xaq (Xbh Xdb (Xaf Xae Xam))))) (Xa1 (Xbf (Xbs Xdh Xah Xah))) Xba)
   (Xa1 (Xbf Xai))),?_⟩)
 rintro ds Pr ⟨ns,k,rfl,h0,q⟩
 fin2
 split
 .rename_i h
  exact⟨_,Xho h0 h,q⟩
 .rename_i h
  have e:ns.getD k.toNat 0=0:=by
   have hk:ns.length<=k.toNat:=by omega
   simp[List.getD,getElem?_eq_none hk]
  rw[e]at q
  exact q
abbrev hdD (h w L n:Nat)(fs:List Lf):D:=.tup [.int h,.int w,.int L,.int n,Xll fs]
def Xof:DSp:=λds P=>∃(h w L n:Nat) (fs:List Lf) (bs:List Bool) (v:Wk),ds=[hdD h w L n fs,.str (Xcf bs)]/\h<=100/\n<=5000/\Fol (Wk.turn ⟨n,0,[],[⟨0,0,h*w,1-2^n,2^n-1⟩],[]⟩) bs v/\P (.ob none "Walk" ns_Walk v.ts)
abbrev Xfq:Stmt:=top 75
theorem Xvb:FnScope ["head","bits"] ["head","bits"] (Xac Xfq):=by walk_at "S"
theorem Xvo {f:Addr}{fd:FuncData}(Df:DefAt K mg "walk_of" Xfq f fd)(B:BltV mg)(KV:KitV K)(CV_Walk:ClsV K "Walk" ns_Walk)(Xpw:∃t,mg "PLANES"=some (.int 3 t))(Xzb:∃t,mg "HIGH"=some (.int 0 t))(Xy9:∃t,mg "WIDE"=some (.int 1 t))(Xk5:Cal P w K mg base "followed" 6 ["bits","many","planes"] (spV K 3 Xmd)):
  Cal P w K mg base "walk_of" 7 ["head","bits"] (spV K 2 Xof):=by
 refine CalV.of Df Xvb (by walk_at "b") rfl (λc A o s H E hr=>⟨_,_,(Xaj (Xax (Xa0 Xk5 (hr.mono (by decide)) (by rfl) (Xaa (pv 1) (Xaa (Xaz Xjf (Xbc Xa9 (pv 0) (Xat (by rfl) Xzb) (λ_ _=>rfl)) (Xbc Xa9 (pv 0) (Xat (by rfl) Xy9) (λ_ _=>rfl))) (Xaa (Xbc Xa9 (pv 0) (Xat (by rfl) Xpw) (λ_ _=>rfl)) Xad)))))),
  (Xa1 (Xau (Xab Xah (Xab (Xas Xey (Xca (OpF.b Xa8) Xae (Xaq Xai)) (Xca (OpF.b Xa8) Xae (Xaq Xai))) (Xab (Xbs Xa8 Xah Xai) Xak))))),?_⟩)
 rintro ds Pr ⟨h,w,L,n,fs,bs,v,rfl,hh,hn,F,k⟩
 fin2
 exact⟨.inl ⟨by omega,by omega⟩,bs,_,n,v,rfl,hn,F,k⟩
abbrev wk0 (m n:Nat):Wk:=Wk.turn ⟨n,0,[],[⟨0,0,m,1-2^n,2^n-1⟩],[]⟩
def Yae (h w L n:Nat)(fs:List Lf):Prop:=(1<=h/\h<=64)/\(1<=w/\w<=64)/\L<=6/\n<=4000/\fs.length<=6/\∀f∈fs,f.Ok
theorem Ynh (m:Nat):Xht 0 (m:Int) 4=(m+3) / 4:=Xlj λi=>by rw[Xpd (by decide)];omega
theorem Xjz:∀bs:List Bool,Xcf bs=bT bs
 | []=>by rw[Xw2];rfl
 |b::bs=>by
  rw[Xgk,Xjz bs,show Xsh b=tx [bch b] by cases b<;>decide +kernel,Xu3]
  rfl
theorem Xwj {n:Int}{l:List Nat}(hn:n.natAbs<=9999)(d:Dg n.natAbs l):Ykl (tx (if n<0 then 45::l else l))=false/\PySem.intText? (tx (if n<0 then 45::l else l))=some n/\(tx (if n<0 then 45::l else l)).length<=5:=by
 have hl:=d.len 3 (by omega)
 have h0:=d.ne
 have hdig:=d.dig
 have hval:=d.val
 cases l with
 |nil=>exact absurd h0 (lt_irrefl _)
 |cons c cs=>
  have hc:=hdig c mem_cons_self
  have hz:c=48->n=0/\cs=[]:=λz=>by
   subst z
   have:=d.zero rfl
   exact⟨by omega,(List.cons.inj this.2).2⟩
  have hst:Txt.stripChars (tx (c::cs)) (Str.ofString "0123456789")=Str.ofString "":=by
   rw[Xsb]
   exact Xw0 λx hx=>Yjy (hdig x hx)
  rw[length_cons]at hl
  by_cases hneg:n<0
  .rw [if_pos hneg]
   refine⟨?_,?_,by rw[Xc3,length_cons,length_cons];omega⟩
   .unfold Ykl
    rw[Xv7,hst,Xc3,length_cons,Xwi,Xir,decide_eq_false (show ¬ c=48 from λz=>by have:=(hz z).1;omega),decide_eq_true (show (1:Int)<=((cs.length+1:Nat):Int) by omega),decide_eq_true (show ((cs.length+1:Nat):Int)<=4 by omega)]
    simp
   .rw [PySem.intText_neg (cs:=c::cs) (by simp) hdig (by simp) (by rw[Xc3,length_cons,length_cons];omega),hval]
    congr 1
    omega
  .rw [if_neg hneg]
   refine⟨?_,?_,by rw[Xc3,length_cons];omega⟩
   .unfold Ykl
    rw[Xv6 (by omega),hst,Xc3,length_cons,Xwi,Xir,decide_eq_true (show (1:Int)<=((cs.length+1:Nat):Int) by omega),decide_eq_true (show ((cs.length+1:Nat):Int)<=4 by omega)]
    by_cases z:c=48
    .rw [(hz z).2,z]
     simp
    .rw [decide_eq_false z]
     simp
   .rw [PySem.intText_digits (by simpa using hdig) (by simp) (by rw[Xc3,length_cons];omega)]
    congr 1
    show ((PySem.NumText.digitsVal (tx (c::cs)).cps.toList:Nat):Int)=n
    rw[show (tx (c::cs)).cps.toList=c::cs by simp,hval]
    omega
abbrev Xd0 (n:Int):Str:=Str.ofString (toString n)
abbrev Xfw (f:Lf):Str:=Str.join (tx [44]) [Xd0 f.h,Xd0 f.l,Xd0 f.r,Xd0 f.a,Xd0 f.s]
def Xpr (fs:List Lf):Str:=if fs=[] then tx [45] else Str.join (tx [59]) (fs.map Xfw)
def wrT (h w L n:Nat)(fs:List Lf)(bs:List Bool):List Str:=[Str.ofString "liftwave",Xd0 h,Xd0 w,Xd0 L,Xd0 n,Xpr fs,lT (pk bs)]
theorem Xp0:Str.ofString ","=tx [44]:=by decide +kernel
theorem Xss:Str.ofString ";"=tx [59]:=by decide +kernel
theorem Xkk:Str.ofString " "=tx [32]:=by decide +kernel
theorem Xjq (x:Str)(ys:List Str):Txt.join x ys=Str.join x ys:=PySem.StrLaws.glued_eq_join x ys
theorem Xbp {n:Int}(h:n.natAbs<=9999):(Xd0 n).length<=5:=by
 obtain⟨l,hl⟩:=Ybk.ex n
 rw[show Xd0 n=tx l from hl.str,Xc3]
 obtain⟨r,d,rfl⟩:=hl
 have:=d.len 3 (by omega)
 split
 .rw [length_cons]
  omega
 .omega
theorem Xdm {n:Int}{c:Nat}(h1:c≠45)(h2:c<48∨57<c):c∉(Xd0 n).cps.toList:=by
 obtain⟨l,hl⟩:=Ybk.ex n
 rw[show Xd0 n=tx l from hl.str]
 obtain⟨r,d,rfl⟩:=hl
 intro hc
 have hd:c∈r->False:=λz=>by have:=d.dig c z;omega
 split at hc
 .rcases mem_cons.mp (show c∈45::r from hc) with z |z
  .exact h1 z
  .exact hd z
 .exact hd hc
theorem Xkz (x:Str)(ys:List Str)(b:Nat)(h:∀y∈ys,y.length<=b):(Str.join x ys).length<=ys.length*(b+x.length):=by
 refine le_trans (PySem.StrLaws.join_length_le x ys) ?_
 have:(ys.map (·.length)).sum<=ys.length*b:=by
  clear x
  induction ys with
  |nil=>exact zero_le _
  |cons y r ih=>
   have h1:=h y mem_cons_self
   have h2:=ih λz hz=>h z (mem_cons_of_mem _ hz)
   rw[map_cons,sum_cons,length_cons,succ_mul]
   omega
 rw[mul_add]
 omega
theorem Yco {ys:List Str}{b:Nat}(h:∀y∈ys,y.length<=b):(ys.map (·.length)).sum<=ys.length*b:=by
 induction ys with
 |nil=>exact zero_le _
 |cons y r ih=>
  have h1:=h y mem_cons_self
  have h2:=ih λz hz=>h z (mem_cons_of_mem _ hz)
  rw[map_cons,sum_cons,length_cons,succ_mul]
  omega
theorem Xl0 {f:Lf}(ok:f.Ok):∀x∈[f.h,f.l,f.r,f.a,f.s],x.natAbs<=999:=λx hx=>by
 have h1:=ok.h
 have h2:=ok.l
 have h3:=ok.r
 have h4:=ok.a
 have h5:=ok.s
 simp only[mem_cons,not_mem_nil,or_false]at hx
 rcases hx with rfl |rfl |rfl |rfl |rfl<;>omega
theorem Xpq {f:Lf}(ok:f.Ok):(Xfw f).length<=30:=by
 refine le_trans (Xkz _ _ 5 (λx hx=>?_)) (show 5*(5+1)<=30 by decide)
 obtain⟨n,hn,rfl⟩:=mem_map.mp (show x∈[f.h,f.l,f.r,f.a,f.s].map Xd0 from hx)
 exact Xbp (le_trans (Xl0 ok n hn) (by decide))
theorem Xry {x:Nat}(h:x<=9999):Nat.log2 x<14:=by
 by_cases z:x=0
 .rw [z]
  decide
 .exact (Nat.log2_lt z).mpr (show x<2^14 by omega)
theorem Ydg {c d:Nat}:∀{ws:List (List Nat)},c∈jn d ws->c=d∨∃w∈ws,c∈w
 | [],h=>by cases h
 | [w],h=>.inr ⟨w,mem_cons_self,h⟩
 |w :: v::ws,h=>by
  rcases mem_append.mp (show c∈w++d::jn d (v::ws) from h) with z |z
  .exact .inr ⟨w,mem_cons_self,z⟩
  .rcases mem_cons.mp z with y |y
   .exact .inl y
   .rcases Ydg y with x | ⟨u,hu,x⟩
    .exact .inl x
    .exact .inr ⟨u,mem_cons_of_mem _ hu,x⟩
theorem Xr3 {c d:Nat}{ws:List Str}(h1:c≠d)(h2:∀w∈ws,c∉w.cps.toList):c∉(Str.join (tx [d]) ws).cps.toList:=λz=>by
 rw[show tx [d]=⟨#[d]⟩ from rfl,Xjp]at z
 rcases Ydg z with y | ⟨w,hw,y⟩
 .exact h1 y
 .obtain ⟨x,hx,rfl⟩:=mem_map.mp hw
  exact h2 x hx y
theorem Xr0 {c:Nat}(f:Lf)(h:c≠45)(h2:c<44∨57<c):c∉(Xfw f).cps.toList:=
 Xr3 (by omega) λw hw=>by
  obtain⟨n,hn,rfl⟩:=mem_map.mp (show w∈[f.h,f.l,f.r,f.a,f.s].map Xd0 from hw)
  exact Xdm h (by omega)
theorem Xv1 (f:Lf):44∈(Xfw f).cps.toList:=by
 unfold Xfw
 rw[show tx [44]=⟨#[44]⟩ from rfl,Xjp]
 exact mem_append.mpr (.inr mem_cons_self)
theorem Ydi {c d:Nat}:∀{ws:List (List Nat)} {w:List Nat},w∈ws->c∈w->c∈jn d ws
 | [],_,h,_=>by cases h
 | [w],_,h,hc=>by rw[mem_singleton.mp h]at hc;exact hc
 |w::v::ws,u,h,hc=>by
  show c∈w++d::jn d (v::ws)
  rcases mem_cons.mp h with rfl |z
  .exact mem_append.mpr (.inl hc)
  .exact mem_append.mpr (.inr (mem_cons_of_mem _ (Ydi z hc)))
theorem Ybs {fs:List Lf}(z:fs≠[]):Xpr fs≠Str.ofString "-":=λq=>by
 rw[Xpr,if_neg z,Xit]at q
 have e:=congrArg (λx:Str=>x.cps.toList) q
 simp only[show tx [59]=⟨#[59]⟩ from rfl,Xjp]at e
 obtain⟨f,r,rfl⟩:=List.exists_cons_of_ne_nil z
 have h:44∈jn 59 (((f::r).map Xfw).map λx=>x.cps.toList):=Ydi (mem_map.mpr ⟨Xfw f,mem_map.mpr ⟨f,mem_cons_self,rfl⟩,rfl⟩) (Xv1 f)
 rw[e]at h
 simp at h
theorem Xuo {c:Nat}(fs:List Lf)(h:c≠45)(h2:c<44∨59<c):c∉(Xpr fs).cps.toList:=by
 unfold Xpr
 split
 .intro z
  simp at z
  exact h z
 .exact Xr3 (by omega) λw hw=>by
   obtain⟨f,hf,rfl⟩:=mem_map.mp hw
   exact Xr0 f h (by omega)
theorem Xta {fs:List Lf}(hl:fs.length<=6)(ok:∀f∈fs,f.Ok):(Xpr fs).length<=186:=by
 unfold Xpr
 split
 .decide
 .have:=Xkz (tx [59]) (fs.map Xfw) 30 (λy hy=>by
   obtain⟨f,hf,rfl⟩:=mem_map.mp hy
   exact Xpq (ok f hf))
  rw[length_map,show (tx [59]).length=1 from rfl]at this
  omega
theorem Yjx:∀bs:List Bool,(pk bs).flatMap fr=fl bs
 |a::b::c::d::r=>by
  show (wor a b c d::pk r).flatMap fr=_
  rw[List.flatMap_cons,Yjx r]
  unfold fl
  rw[show (a::b::c::d::r).length=r.length+4 from rfl,show (r.length+4)%4=r.length%4 by omega,show fr (wor a b c d)=[a,b,c,d] by cases a<;>cases b<;>cases c<;>cases d<;>rfl]
  rfl
 | []=>rfl
 | [a]=>by cases a<;>rfl
 | [a,b]=>by cases a<;>cases b<;>rfl
 | [a,b,c]=>by cases a<;>cases b<;>cases c<;>rfl
theorem Xx0 (bs:List Bool)(h:bs.length<=900000):(pk bs).length<=225000:=by
 rw[Xuf]
 omega
theorem Ycc {h w L n:Nat}{fs:List Lf}{bs:List Bool}(hd:Yae h w L n fs)(hl:bs.length<=900000):((wrT h w L n fs bs).map (·.length)).sum<=8+(5+(5+(5+(5+(186+(225000+0)))))):=by
 obtain⟨⟨h1,h2⟩,⟨w1,w2⟩,hL,hn,hf,ok⟩:=hd
 have e1:=Xbp (n:=h) (by omega)
 have e2:=Xbp (n:=w) (by omega)
 have e3:=Xbp (n:=L) (by omega)
 have e4:=Xbp (n:=n) (by omega)
 have e5:=Xta hf ok
 have e6:(lT (pk bs)).length<=225000:=by rw[Xc3,length_map];exact Xx0 bs hl
 exact add_le_add (by decide +kernel) (add_le_add e1 (add_le_add e2 (add_le_add e3 (add_le_add e4 (add_le_add e5 (add_le_add e6 (Nat.le_refl 0)))))))
theorem Yai (h w L n:Nat)(fs:List Lf)(bs:List Bool):Txt.split (Str.join (tx [32]) (wrT h w L n fs bs)) (Str.ofString " ")=wrT h w L n fs bs:=by
 rw[Xkk]
 refine Xji 32 _ (by simp[wrT]) (λx hx=>?_)
 unfold wrT at hx
 simp only[mem_cons,not_mem_nil,or_false]at hx
 rcases hx with rfl |rfl |rfl |rfl |rfl |rfl |rfl
 .decide +kernel
 .exact Xdm (by decide) (.inl (by decide))
 .exact Xdm (by decide) (.inl (by decide))
 .exact Xdm (by decide) (.inl (by decide))
 .exact Xdm (by decide) (.inl (by decide))
 .exact Xuo fs (by decide) (.inl (by decide))
 .intro z
  obtain⟨n,hn,e⟩:=mem_map.mp (show 32∈(pk bs).map (97+·) from z)
  omega
def Xqj:DSp:=λds P=>∃bs:List Bool,ds=[.str (bT bs)]/\bs.length<=900000/\P (.fz (.str (lT (pk bs))))
def Xoj:DSp:=λds P=>∃c:Nat,ds=[.str (tx [c])]/\(97<=c/\c<=112)/\P (.fz (.str (bT (fr (c-97)))))
def Xmb:DSp:=λds P=>∃cs:List Nat,ds=[.str (tx cs)]/\cs.length<=240000/\(∀c∈cs,97<=c/\c<=112)/\P (.fz (.str (bT (cs.flatMap λc=>fr (c-97)))))
def Xge:DSp:=λds P=>∃(n:Int) (l:List Nat),ds=[.str (tx l)]/\Ybk n l/\n.natAbs<=9999/\P (.fz (.int n))
def Xhz:DSp:=λds P=>∃f:Lf,ds=[lfD f]/\f.Ok/\P (.fz (.str (Xfw f)))
def Xgl:DSp:=λds P=>∃fs:List Lf,ds=[Xll fs]/\fs.length<=6/\(∀f∈fs,f.Ok)/\P (.fz (.str (Xpr fs)))
def Xoe:DSp:=λds P=>∃(h w L n:Nat) (fs:List Lf) (bs:List Bool),ds=[hdD h w L n fs,.str (Xcf bs)]/\Yae h w L n fs/\bs.length<=900000/\P (.fz (.str (Str.join (tx [32]) (wrT h w L n fs bs))))
def Xla:DSp:=λds P=>∃f:Lf,ds=[.str (Xfw f)]/\f.Ok/\P (.fz (lfD f))
def Xi4:DSp:=λds P=>∃fs:List Lf,ds=[.str (Xpr fs)]/\fs.length<=6/\(∀f∈fs,f.Ok)/\P (.fz (Xll fs))
def Xlb:DSp:=λds P=>∃(h w L n:Nat) (fs:List Lf) (bs:List Bool),ds=[.lst ((wrT h w L n fs bs).map D.str)]/\Yae h w L n fs/\P (.fz (hdD h w L n fs))
def Xoi:DSp:=λds P=>∃(h w L n:Nat) (fs:List Lf),ds=[hdD h w L n fs]/\Yae h w L n fs/\P (.fz (.bl true))
abbrev Xe2:Stmt:=top 74
theorem Xvf:FnScope ["thing"] ["thing"] (Xac Xe2):=by walk_at "S"
theorem Xvt {f:Addr}{fd:FuncData}(Df:DefAt K mg "is_head" Xe2 f fd)(B:BltV mg)(KV:KitV K)(CV_Walk:ClsV K "Walk" ns_Walk)(Xhc:∃t,mg "LADDER"=some (.int 4 t))(Xcd:Yac K mg "NUMBER_SPANS" (D.tup [.tup [.int 1,.int 64],.tup [.int 1,.int 64],.tup [.int 0,.int 6],.tup [.int 0,.int 4000]]))(Xgs:Cal P w K mg base "is_part" 2 ["thing","at"] (spV K 2 Xko))(Xeo:Cal P w K mg base "is_ladder" 3 ["thing"] (spV K 1 Xh2)):
  Cal P w K mg base "is_head" 4 ["thing"] (spV K 1 Xoi):=by
 refine CalV.of Df Xvf (by walk_at "b") rfl (λc A o s H E hr=>⟨_,_,(Xag (Xcb (Xkt (Xdk (Xch (Xap Xcx (by rfl) B.isinstance boot_isinstance (Xaa (pv 0) (Xaa (Xel (v:=.ty "tuple") (by rfl) B.tuple PyProof.Rows.boot_tuple (by rfl)) Xad))))) (Xhr (Xbe Xrg (Xap Xaw (by rfl) B.len boot_len (Xaa (pv 0) Xad)) (Xaz Xef (Xap Xaw (by rfl) B.len boot_len (Xaa (Xff (by rfl) Xcd) Xad)) Xal) (Xbg _)))).pt (Xaj (Xax Xmy)) Xbb)
   (Xaj (Xax (Xkb (Xap (Xik rfl) (by rfl) B.all boot_all (Xaa (Xda rfl (Xd8 (by rfl) (by exact B.range) (Xaa (Xap Xaw (by rfl) B.len boot_len (Xaa (Xff (by rfl) Xcd) Xad)) Xad)) (show BlkScope (Xac Xe2) _ from⟨rfl,by decide +kernel,by decide +kernel,by decide +kernel⟩) (N:=["at","thing"]) (ix:=[none,some 0]) (show Xb2 _ _ _ _ from⟨⟨rfl,rfl,.inl rfl⟩,trivial⟩) (λ_ _ _=>(Xa4 (i:=0) (show List.Nodup (["at","thing"]:List Str) by decide +kernel) rfl (Or.inl rfl))) (λ_ _ _=>(Xa0 Xgs (hr.mono (by decide)) (by rfl) (Xaa (Xbc Xa9 (pv 1) (pv 0) (λ_ _=>rfl)) (Xaa (pv 0) Xad))))) Xad)) (Xmx (Xa0 Xeo (hr.mono (by decide)) (by rfl) (Xaa (Xbc Xa9 (pv 0) (Xat (by rfl) Xhc) (λ_ _=>rfl)) Xad))))))),
  (Xao (Xcg (Xkq (Xdi (Xkm (Xbh (Xhs KV) (Xaf Xae (Xaf (Xaq Xks) Xam))))) (Xbd (Xas Xru (Xaq (Xbh Xdb (Xaf Xae Xam))) (Xaq (Xas Xc1 (Xaq (Xbh Xdb (Xaf (Xaq Xpc) Xam))) (Xaq Xai)))))) (Xa1 (Xbf Xmu)) Xba)
   (Xa1 (Xbf (Xg7 (Xbh Xsf (Xaf (Xaq (Xb8 (Xb3 (Xg4 (Xaf (Xaq (Xbh Xdb (Xaf (Xaq Xpc) Xam))) Xam)) Xa5 (Xau (Xab (Xbs Xa8 Xah Xah) (Xab Xah Xak)))))) Xam)) (Xb8 (Xau (Xab (Xbs Xa8 Xah Xai) Xak))))))),?_⟩)
 rintro ds Pr ⟨h,w,L,n,fs,rfl,hd,k⟩
 obtain⟨⟨h1,h2⟩,⟨w1,w2⟩,hL,hn,hf,ok⟩:=hd
 fin2
 rw[if_neg (by simp)]
 refine⟨⟨by decide,by decide⟩,?_⟩
 refine Xix.map [(0:Int),1,2,3] D.int (λ_=>.fz (.bl true)) (by decide) (λx hx Q q=>?_) ?_
 .fin2
  simp only[mem_cons,not_mem_nil,or_false]at hx
  rcases hx with rfl |rfl |rfl |rfl
  .exact ⟨_,rfl,h,0,rfl,.inl ⟨rfl,h1,h2⟩,q⟩
  .exact ⟨_,rfl,w,1,rfl,.inr (.inl ⟨rfl,w1,w2⟩),q⟩
  .exact ⟨_,rfl,L,2,rfl,.inr (.inr (.inl ⟨rfl,hL⟩)),q⟩
  .exact ⟨_,rfl,n,3,rfl,.inr (.inr (.inr ⟨rfl,hn⟩)),q⟩
 refine⟨[true,true,true,true],rfl,?_⟩
 rw[if_pos (by decide)]
 exact⟨fs,rfl,hf,ok,k⟩
abbrev Xf7:Stmt:=top 11
theorem Xqs:FnScope ["bits","filled"] ["bits"] (Xac Xf7):=by walk_at "S"
theorem Xyh {f:Addr}{fd:FuncData}(Df:DefAt K mg "packed" Xf7 f fd)(B:BltV mg)(KV:KitV K)(CV_Walk:ClsV K "Walk" ns_Walk)(Xb1:∃t,mg "LETTERS_packs"=some (.str "abcdefghijklmnop" t))(Xk0:Yhd K mg "FOURS" ["0000","0001","0010","0011","0100","0101","0110","0111","1000","1001","1010","1011","1100","1101","1110","1111"]):
  Cal P w K mg base "packed" 1 ["bits"] (spV K 1 Xqj):=by
 refine CalV.of Df Xqs (by walk_at "b") rfl (λc A o s H E hr=>⟨_,_,(Xag (Xa6 (i:=1) Xqs.nd rfl (Or.inr rfl) (Xaz Xos (pv 0) (Xaz Yfp Xb0 (Xaz Xea (Yfj Xwm (Xap Xbj (by rfl) B.len boot_len (Xaa (pv 0) Xad))) Xal))))
   (Xaj (Xax (Xec plainAttrs_str slot_str_join type_str_join Xg9 Xb0 (Xaa (Xda rfl (Xib (by rfl) (by exact B.range) (Xaa Xal (Xaa (Xap Xbj (by rfl) B.len boot_len (Xaa (pv 1) Xad)) (Xaa Xal Xad)))) (show BlkScope (Xac Xf7) _ from⟨rfl,by decide +kernel,by decide +kernel,by decide +kernel⟩) (N:=["at","filled"]) (ix:=[none,some 1]) (show Xb2 _ _ _ _ from⟨⟨rfl,rfl,.inl rfl⟩,trivial⟩) (λ_ _ _=>(Xa4 (i:=0) (show List.Nodup (["at","filled"]:List Str) by decide +kernel) rfl (Or.inl rfl))) (λ_ _ _=>(Xbc Yji (Xgb (by rfl) Xb1) (Xec PySem.F.plainAttrs_tuple PySem.F.slot_tuple_index PySem.F.type_tuple_index Yf1 (Ya8 (by rfl) Xk0) (Xaa (Xd9 Xme (pv 1) (Xd7 (pv 0)) (Xd7 (Xaz Xef (pv 0) Xal))) Xad)) (λ_ _=>rfl)))) Xad))))),
  (Xao (Xa2 (Xbf (Xas Xyn Xae (Xaq (Xas Yfw (Xaq Xbk) (Xaq (Xas Xey (Xaq (Xxq (Xaq (Xbh Xeu (Xaf Xae Xam))))) (Xaq Xai))))))))
   (Xa1 (Xbf (Xg6 (Xaq Xbk) (Xaq (Xb8 (Xb3 (Xms (Xaf (Xaq Xai) (Xaf (Xaq (Xbh Xeu (Xaf Xae Xam))) (Xaf (Xaq Xai) Xam)))) Xa5 (Xbf (Xbs Yi6 Xbk (Yev (Xaq (Xmt Xah (Xj6 Xae) (Xj6 (Xaq (Xas Xc1 Xae (Xaq Xai)))))))))))))))),?_⟩)
 rintro ds Pr ⟨bs,rfl,hl,k⟩
 have hm:(4-bs.length%4)%4<4:=by omega
 have e0 : -(((bT bs).length:Nat):Int)%4=(((4-bs.length%4)%4:Nat):Int):=by rw[Xc3,length_map];omega
 have e1:bT bs++Yfa (Str.ofString "0") (((4-bs.length%4)%4:Nat):Int)=bT (fl bs):=by
  rw[Xxu _ hm,Xu3,<- map_append]
  rfl
 have e2:(bT bs).length=bs.length:=by rw[Xc3,length_map]
 have e3:(Yfa (Str.ofString "0") (((4-bs.length%4)%4:Nat):Int)).length<4:=by rw[Xxu _ hm,Xc3,length_map,length_replicate];exact hm
 obtain⟨n,hn,hn2⟩:=Ydm bs
 have e4:(bT (fl bs)).length=4*n:=by rw[Xc3,length_map,hn]
 have e5:(Str.ofString "0").length=1:=by decide +kernel
 have e6:Xht 0 ((4*n:Nat):Int) 4=n:=by rw[Ynh];omega
 fin2
 rw[e0,e1,e2,e4,e5,e6]
 refine⟨by omega,by omega,by omega,by omega,by omega,by omega,by omega,?_⟩
 refine Xix.rng (λi=>.fz (.str (tx [97+(pk bs).getD i 0]))) (by omega) (λi hi Q q=>?_) ?_
 .fin2
  obtain⟨a,b,c,d,h1,h2⟩:=Ykj i (fl bs) (by omega)
  rw[show (0:Int)+(i:Int)*4=((4*i:Nat):Int) by omega,show ((4*i:Nat):Int)+4=((4*i+4:Nat):Int) by omega,Yd6 _ (by omega) (by rw[e4];omega),e4,Yf9]
  have e7:tx (((bT (fl bs)).cps.toList.drop (4*i)).take (4*i+4-4*i))=bT [a,b,c,d]:=by
   show tx ((((fl bs).map bch).drop (4*i)).take (4*i+4-4*i))=_
   rw[show 4*i+4-4*i=4 by omega,<- map_drop,<- map_take,h1]
  rw[e7]
  obtain⟨g1,g2,g3⟩:=Xzh a b c d
  rw[Yff]at h2
  refine⟨by omega,g1,by omega,_,by rw[g2];exact Yi9 g3,?_⟩
  rw[getD_eq_getElem?_getD,h2]at q
  exact q
 .fin2
  have hk:(pk bs).length=n:=by rw[<- Yff,Xuf,hn];omega
  have em:((List.range n).map λi=>(97+(pk bs).getD i 0))=(pk bs).map (97+·):=by
   refine ext_getElem? λi=>?_
   by_cases hi:i<n
   .rw [getElem?_map,List.getElem?_range hi,getElem?_map,getElem?_eq_getElem (by omega)]
    simp[getElem?_eq_getElem (show i<(pk bs).length by omega)]
   .rw [getElem?_eq_none (by simp;omega),getElem?_eq_none (by simp;omega)]
  refine⟨((pk bs).map (97+·)).map λm=>tx [m],?_,?_,?_⟩
  .rw [<- em,map_map,map_map,map_map]
   rfl
  .rw [Xwy,length_map,length_map,hk,Xsb,Xc3]
   show n+n*0<=_
   omega
  .rw [Ybu]
   exact k
abbrev Xft:Stmt:=top 12
theorem Xvg:FnScope ["letter"] ["letter"] (Xac Xft):=by walk_at "S"
theorem Xvu {f:Addr}{fd:FuncData}(Df:DefAt K mg "four_of" Xft f fd)(B:BltV mg)(KV:KitV K)(CV_Walk:ClsV K "Walk" ns_Walk)(Xb1:∃t,mg "LETTERS_packs"=some (.str "abcdefghijklmnop" t))(Xk0:Yhd K mg "FOURS" ["0000","0001","0010","0011","0100","0101","0110","0111","1000","1001","1010","1011","1100","1101","1110","1111"]):
  Cal P w K mg base "four_of" 1 ["letter"] (spV K 1 Xoj):=by
 refine CalV.of Df Xvg (by walk_at "b") rfl (λc A o s H E hr=>⟨_,_,(Xag (Xcb (Xbe Xrf (pv 0) (Xgb (by rfl) Xb1) (by rfl)) (Xaj Xga) Xbb)
   (Xaj (Xax (Xbc Xa9 (Xff (by rfl) Xk0.c) (Xec plainAttrs_str PySem.F.slot_str_find PySem.F.type_str_find Yf2 (Xgb (by rfl) Xb1) (Xaa (pv 0) Xad)) (λ_ _=>rfl))))),
  (Xao (Xcg (Xbd (Xas Xym Xae (Xaq Xbk))) Xf9 Xba)
   (Xa1 (Xbf (Xbs Xa8 Xpc (Yez (Xaq Xbk) Xae))))),?_⟩)
 rintro ds Pr ⟨c,rfl,h,k⟩
 fin2
 have hf:=PySem.StrLaws.found_one LET c
 rw[decide_eq_true (Yf8.mpr h)]at hf
 rw[if_neg (by intro z;rw[show tx [c]=⟨#[c]⟩ from rfl]at z;rw[z]at hf;cases hf)]
 have e:c=97+(c-97):=by omega
 refine⟨_,?_,k⟩
 rw[show tx [c]=tx [97+(c-97)] by rw[<- e],Ybq (by omega)]
 exact Yjw (by omega)
theorem Yhw (cs:List Nat):((cs.map λc=>bT (fr (c-97))).map (·.length)).sum=4*cs.length:=by
 induction cs with
 |nil=>rfl
 |cons c cs ih=>rw[map_cons,map_cons,sum_cons,ih,length_cons,Xc3];show 4+_=_;omega
theorem Yge (cs:List Nat):Txt.join (Str.ofString "") (cs.map λc=>bT (fr (c-97)))=bT (cs.flatMap λc=>fr (c-97)):=by
 have:=Xyx (cs.map λc=>(fr (c-97)).map bch)
 rw[map_map]at this
 rw[show (cs.map λc=>bT (fr (c-97)))=cs.map (tx∘λc=>(fr (c-97)).map bch) from rfl,this]
 congr 1
 rw[List.map_flatMap,List.flatMap_def]
abbrev Xd2:Stmt:=top 13
theorem Xst:FnScope ["letters"] ["letters"] (Xac Xd2):=by walk_at "S"
theorem Xs0 {f:Addr}{fd:FuncData}(Df:DefAt K mg "unpacked" Xd2 f fd)(B:BltV mg)(KV:KitV K)(CV_Walk:ClsV K "Walk" ns_Walk)(Xnl:Cal P w K mg base "four_of" 1 ["letter"] (spV K 1 Xoj)):
  Cal P w K mg base "unpacked" 2 ["letters"] (spV K 1 Xmb):=by
 refine CalV.of Df Xst (by walk_at "b") rfl (λc A o s H E hr=>⟨_,_,(Xaj (Xax (Xec plainAttrs_str slot_str_join type_str_join Xg9 Xb0 (Xaa (Xda rfl (Yc3 (pv 0)) (show BlkScope (Xac Xd2) _ from⟨rfl,by decide +kernel,by decide +kernel,by decide +kernel⟩) (N:=["letter"]) (ix:=[none]) (show Xb2 _ _ _ _ from trivial) (λ_ _ _=>(Xa4 (i:=0) (show List.Nodup (["letter"]:List Str) by decide +kernel) rfl (Or.inl rfl))) (λ_ _ _=>(Xa0 Xnl (hr.mono (by decide)) (by rfl) (Xaa (pv 0) Xad)))) Xad)))),
  (Xa1 (Xbf (Xg6 (Xaq Xbk) (Xaq (Xb8 (Xb3 (Ycw Xae) Xa5 (Xau (Xab Xah Xak)))))))),?_⟩)
 rintro ds Pr ⟨cs,rfl,hl,hc,k⟩
 fin2
 rw[show (Xxb (tx cs)).map D.str=cs.map λc=>D.str (tx [c]) by rw[show Xxb (tx cs)=cs.map λc=>tx [c] from rfl,map_map];rfl]
 refine Xix.map cs (λc=>D.str (tx [c])) (λc=>.fz (.str (bT (fr (c-97))))) (by omega) (λc hm Q q=>?_) ?_
 .fin2
  exact⟨c,rfl,hc c hm,q⟩
 .fin2
  refine⟨cs.map λc=>bT (fr (c-97)),by rw[map_map,map_map];rfl,?_,?_⟩
  .rw [Yhw,length_map,Xsb,Xc3]
   show 4*cs.length+cs.length*0<=_
   omega
  .rw [Yge]
   exact k
abbrev Xcn:Stmt:=top 86
theorem Xjc:FnScope ["word","figures"] ["word"] (Xac Xcn):=by walk_at "S"
theorem Xnx {f:Addr}{fd:FuncData}(Df:DefAt K mg "read_number" Xcn f fd)(B:BltV mg)(KV:KitV K)(CV_Walk:ClsV K "Walk" ns_Walk)(Xnb:∃t,mg "FIGURES"=some (.str "0123456789" t))(Xhd:Yac K mg "FIGURE_SPAN" (D.tup [.int 1,.int 4]))(Xep:Cal P w K mg base "holds" 1 ["one","number"] (spV K 2 Xgu)):
  Cal P w K mg base "read_number" 2 ["word"] (spV K 1 Xge):=by
 refine CalV.of Df Xjc (by walk_at "b") rfl (λc A o s H E hr=>⟨_,_,(Xag (Xa6 (i:=1) Xjc.nd rfl (Or.inl rfl) (Xph (Xch (Xec plainAttrs_str PySem.F.slot_str_startswith PySem.F.type_str_startswith Xrw (pv 0) (Xaa Xb0 Xad))) (Xd9 Xme (pv 0) (Xd7 Xal) Xh9) (pv 0)))
   (Xag (Xcb (Xkt (Xbe Xrg (Xec plainAttrs_str PySem.F.slot_str_strip PySem.F.type_str_strip Ybm (pv 1) (Xaa (Xgb (by rfl) Xnb) Xad)) Xb0 (Xbg _)) (Xhr (Xdk (Xch (Xa0 Xep (hr.mono (by decide)) (by rfl) (Xaa (Xff (by rfl) Xhd) (Xaa (Xap Xbj (by rfl) B.len boot_len (Xaa (pv 1) Xad)) Xad))))))).pt (Xaj Xga) Xbb)
   (Xag (Xcb (Xxx (Xch (Xec plainAttrs_str PySem.F.slot_str_startswith PySem.F.type_str_startswith Xrw (pv 1) (Xaa Xb0 Xad))) (Xsy (Xbe Xrg (pv 0) Xb0 (Xbg _)))).pt (Xaj Xga) Xbb)
   (Xaj (Xax (Xdl Xz3 (by rfl) B.int PyProof.Rows.boot_int (Xaa (pv 0) Xad))))))),
  (Xao (Xa2 (Xbf (Yex (Xkm (Xq2 Xae (Xaq Xbk))) (Xmt Xah (Xj6 (Xaq Xai)) Xq1) Xah)))
   (Xao (Xcg (Xkq (Xbd (Xas Xru (Xaq (Yav Xae (Xaq Xbk))) (Xaq Xbk))) (Xdi (Xkm (Xb8 (Xau (Xab Xpc (Xab (Xbh Xeu (Xaf Xae Xam)) Xak))))))) Xf9 Xba)
   (Xao (Xcg (Xxd (Xkm (Xq2 Xae (Xaq Xbk))) (Xbd (Xas Xru Xae (Xaq Xbk)))) Xf9 Xba)
   (Xa1 (Xbf (Xbh Ygx (Xaf Xae Xam))))))),?_⟩)
 rintro ds Pr ⟨n,l,rfl,⟨r,dg,rfl⟩,h9,k0⟩
 obtain⟨hbad,hint,hl5⟩:=Xwj h9 dg
 have hl:=le_trans hl5 (show 5<=100 by decide)
 generalize tx (if n<0 then 45::r else r)=x at hbad hint hl hl5
 have k:if Ykl x=true then False else ∃n,PySem.intText? x=some n/\Pr (.fz (.int n)):=by
  rw[if_neg (by rw[hbad];decide)]
  exact⟨n,hint,k0⟩
 have hy:(Xv8 x).length<=100:=by
  unfold Xv8
  split
  .exact le_trans (Txt.slice_le x _ _) hl
  .exact hl
 have main : ∀y,Xv8 x=y->y.length<=1000000/\if (!decide (Txt.stripChars y (Str.ofString "0123456789")=Str.ofString ""))=true then False else y.length<=1000000/\Xgu [D.tup [D.int 1,D.int 4],D.int (y.length:Int)] λr=>match r.val with
   |D.bl b=>if (!b)=true then False else if Txt.startswith y (Str.ofString "0")=true then (if (!decide (x=Str.ofString "0"))=true then False else ∃n,PySem.intText? x=some n/\x.length<=640/\Pr (OV.fz (D.int n))) else ∃n,PySem.intText? x=some n/\x.length<=640/\Pr (OV.fz (D.int n))
   |x=>False:=by
  intro y hfy
  unfold Ykl at k
  rw[hfy]at k hy
  refine⟨by omega,?_⟩
  generalize decide (Txt.stripChars y (Str.ofString "0123456789")=Str.ofString "")=b1 at k
  cases b1 with
  |false=>exact k
  |true=>
   rw[if_neg (by decide)]
   refine⟨by omega,1,4,y.length,rfl,?_⟩
   show if (!(decide ((1:Int)<=(y.length:Int)) && decide ((y.length:Int)<=4)))=true then _ else _
   generalize (decide ((1:Int)<=(y.length:Int)) && decide ((y.length:Int)<=4))=b2 at k
   cases b2 with
   |false=>exact k
   |true=>
    rw[if_neg (by decide)]
    generalize Txt.startswith y (Str.ofString "0")=b3 at k
    generalize decide (x=Str.ofString "0")=b4 at k
    cases b3 with
    |false=>
     obtain⟨n,h1,h2⟩:=k
     exact⟨n,h1,by omega,h2⟩
    |true=>
     cases b4 with
     |false=>exact k
     |true=>
      obtain⟨n,h1,h2⟩:=k
      exact⟨n,h1,by omega,h2⟩
 fin2
 by_cases hs:Txt.startswith x (Str.ofString "-")=true
 .rw [if_pos hs]
  exact⟨by omega,main _ (by unfold Xv8;rw[if_pos hs])⟩
 .rw [if_neg hs]
  exact main _ (by unfold Xv8;rw[if_neg hs])
abbrev Xbu:Stmt:=top 87
theorem Xmg:FnScope ["lift"] ["lift"] (Xac Xbu):=by walk_at "S"
theorem Xm2 {f:Addr}{fd:FuncData}(Df:DefAt K mg "written_lift" Xbu f fd)(B:BltV mg)(KV:KitV K)(CV_Walk:ClsV K "Walk" ns_Walk):
  Cal P w K mg base "written_lift" 1 ["lift"] (spV K 1 Xhz):=by
 refine CalV.of Df Xmg (by walk_at "b") rfl (λc A o s H E hr=>⟨_,_,(Xaj (Xax (Xec plainAttrs_str slot_str_join type_str_join Xg9 Xb0 (Xaa (Xda rfl (Xli (pv 0)) (show BlkScope (Xac Xbu) _ from⟨rfl,by decide +kernel,by decide +kernel,by decide +kernel⟩) (N:=["number"]) (ix:=[none]) (show Xb2 _ _ _ _ from trivial) (λ_ _ _=>(Xa4 (i:=0) (show List.Nodup (["number"]:List Str) by decide +kernel) rfl (Or.inl rfl))) (λ_ _ _=>(Xdl Xgd (by rfl) B.str PyProof.Rows.boot_str (Xaa (pv 0) Xad)))) Xad)))),
  (Xa1 (Xbf (Xg6 (Xaq Xbk) (Xaq (Xb8 (Xb3 (Xlg Xah) Xa5 (Xbf (Xbh Xuz (Xaf Xae Xam))))))))),?_⟩)
 rintro ds Pr ⟨f,rfl,ok,k⟩
 unfold lfD
 fin2
 have ob:=Xl0 ok
 refine Xix.map [f.h,f.l,f.r,f.a,f.s] D.int (λx=>.fz (.str (Xd0 x))) (by show 5<=1000000;decide) (λx hx Q q=>?_) ?_
 .fin2
  exact⟨Nat.lt_of_le_of_lt (Nat.log2_le_self _) (by have:=ob x hx;omega),q⟩
 refine⟨[Xd0 f.h,Xd0 f.l,Xd0 f.r,Xd0 f.a,Xd0 f.s],rfl,?_,?_⟩
 .have h1:=Xbp (le_trans (ob f.h (by simp)) (by decide))
  have h2:=Xbp (le_trans (ob f.l (by simp)) (by decide))
  have h3:=Xbp (le_trans (ob f.r (by simp)) (by decide))
  have h4:=Xbp (le_trans (ob f.a (by simp)) (by decide))
  have h5:=Xbp (le_trans (ob f.s (by simp)) (by decide))
  show (Xd0 f.h).length+((Xd0 f.l).length+((Xd0 f.r).length+((Xd0 f.a).length+((Xd0 f.s).length+0))))+5*(Str.ofString ",").length<=16777216
  rw[show (Str.ofString ",").length=1 from rfl]
  omega
 .rw [Xp0,Xjq]
  exact k
abbrev Xbm:Stmt:=top 88
theorem Xkp:FnScope ["ladder"] ["ladder"] (Xac Xbm):=by walk_at "S"
theorem Xkv {f:Addr}{fd:FuncData}(Df:DefAt K mg "written_ladder" Xbm f fd)(B:BltV mg)(KV:KitV K)(CV_Walk:ClsV K "Walk" ns_Walk)(Xfk:∃t,mg "NO_LIFTS"=some (.str "-" t))(Xgg:Cal P w K mg base "written_lift" 1 ["lift"] (spV K 1 Xhz)):
  Cal P w K mg base "written_ladder" 2 ["ladder"] (spV K 1 Xgl):=by
 refine CalV.of Df Xkp (by walk_at "b") rfl (λc A o s H E hr=>⟨_,_,(Xag (Xcb (Xbe Xi1 (Xap Xaw (by rfl) B.len boot_len (Xaa (pv 0) Xad)) Xal (Xbg _)) (Xaj (Xax (Xgb (by rfl) Xfk))) Xbb)
   (Xaj (Xax (Xec plainAttrs_str slot_str_join type_str_join Xg9 Xb0 (Xaa (Xda rfl (Xli (pv 0)) (show BlkScope (Xac Xbm) _ from⟨rfl,by decide +kernel,by decide +kernel,by decide +kernel⟩) (N:=["lift"]) (ix:=[none]) (show Xb2 _ _ _ _ from trivial) (λ_ _ _=>(Xa4 (i:=0) (show List.Nodup (["lift"]:List Str) by decide +kernel) rfl (Or.inl rfl))) (λ_ _ _=>(Xa0 Xgg (hr.mono (by decide)) (by rfl) (Xaa (pv 0) Xad)))) Xad))))),
  (Xao (Xcg (Xbd (Xas Xi2 (Xaq (Xbh Xdb (Xaf Xae Xam))) (Xaq Xai))) (Xa1 (Xbf Xbk)) Xba)
   (Xa1 (Xbf (Xg6 (Xaq Xbk) (Xaq (Xb8 (Xb3 (Xlg Xah) Xa5 (Xau (Xab Xah Xak))))))))),?_⟩)
 rintro ds Pr ⟨fs,rfl,hl,ok,k⟩
 unfold Xll
 gn_on
 by_cases z:fs=[]
 .rw [if_pos (by rw[z];rfl)]
  rw[Xpr,if_pos z,<- Xit]at k
  exact k
 rw[if_neg (by intro q;exact z (List.length_eq_zero_iff.mp (by omega)))]
 gp_on
 fin2
 refine Xix.map fs lfD (λf=>.fz (.str (Xfw f))) (by omega) (λf hf Q q=>?_) ?_
 .fin2
  exact⟨f,rfl,ok f hf,q⟩
 refine⟨fs.map Xfw,by rw[OV.vals_eq,map_map,map_map];rfl,?_,?_⟩
 .have h1:∀y∈fs.map Xfw,y.length<=30:=λy hy=>by
   obtain⟨f,hf,rfl⟩:=mem_map.mp hy
   exact Xpq (ok f hf)
  have h2:=Yco h1
  rw[length_map]at h2
  rw[length_map,show (Str.ofString ";").length=1 from rfl]
  omega
 .rw [Xss,Xjq]
  rw[Xpr,if_neg z]at k
  exact k
abbrev Xez:Stmt:=top 89
theorem Xon:FnScope ["head","bits","numbers"] ["head","bits"] (Xac Xez):=by walk_at "S"
theorem Xvn {f:Addr}{fd:FuncData}(Df:DefAt K mg "written" Xez f fd)(B:BltV mg)(KV:KitV K)(CV_Walk:ClsV K "Walk" ns_Walk)(Xhc:∃t,mg "LADDER"=some (.int 4 t))(Xoy:∃t,mg "NAME"=some (.str "liftwave" t))(Xe8:Cal P w K mg base "written_ladder" 2 ["ladder"] (spV K 1 Xgl))(Xp5:Cal P w K mg base "packed" 1 ["bits"] (spV K 1 Xqj)):
  Cal P w K mg base "written" 3 ["head","bits"] (spV K 2 Xoe):=by
 refine CalV.of Df Xon (by walk_at "b") rfl (λc A o s H E hr=>⟨_,_,(Xag (Xgq (i:=2) Xon.nd rfl (Or.inl rfl) rfl (Xli (Xd9 Xw9 (pv 0) Xh9 (Xd7 (Xat (by rfl) Xhc)))) (show BlkScope (Xac Xez) _ from⟨rfl,by decide +kernel,by decide +kernel,by decide +kernel⟩) (N:=["number"]) (ix:=[none]) (show Xb2 _ _ _ _ from trivial) (λ_ _ _=>(Xa4 (i:=0) (show List.Nodup (["number"]:List Str) by decide +kernel) rfl (Or.inl rfl))) (λ_ _ _=>(Xdl Xgd (by rfl) B.str PyProof.Rows.boot_str (Xaa (pv 0) Xad))))
   (Xaj (Xax (Xec plainAttrs_str slot_str_join type_str_join Xg9 Xb0 (Xaa (Xaz Xm1 (Xaz Xm1 (Xc0 (Xaa (Xgb (by rfl) Xoy) Xad)) (pv 2)) (Xc0 (Xaa (Xa0 Xe8 (hr.mono (by decide)) (by rfl) (Xaa (Xbc Xa9 (pv 0) (Xat (by rfl) Xhc) (λ_ _=>rfl)) Xad)) (Xaa (Xa0 Xp5 (hr.mono (by decide)) (by rfl) (Xaa (pv 1) Xad)) Xad)))) Xad))))),
  (Xao (Xa2 (Xbf (Xb8 (Xb3 (Xlg (Ycx Xah Xq1 (Xj6 (Xaq Xai)))) Xa5 (Xbf (Xbh Xuz (Xaf Xae Xam)))))))
   (Xa1 (Xbf (Xg6 (Xaq Xbk) (Xaq (Xb8 (Xmr (Xb8 (Xmr (Xb8 (Xee (Xde (Xbf Xbk) Xcz))) Xah)) (Xb8 (Xee (Xde (Xau (Xab (Xbs Xa8 Xah Xai) Xak)) (Xde (Xau (Xab Xah Xak)) Xcz))))))))))),?_⟩)
 rintro ds Pr ⟨h,w,L,n,fs,bs,rfl,hd,hl,k⟩
 gn_on
 obtain⟨⟨h1,h2⟩,⟨w1,w2⟩,hL,hn,hf,ok⟩:=hd
 show Xix _ _ ([(h:Int),w,L,n].map D.int) _ _
 refine Xix.map _ D.int (λx=>.fz (.str (Xd0 x))) (by show 4<=1000000;decide) (λx hx Q q=>?_) ?_
 .fin2
  refine⟨Nat.lt_trans (Xry ?_) (by decide),q⟩
  simp only[mem_cons,not_mem_nil,or_false]at hx
  rcases hx with rfl |rfl |rfl |rfl<;>omega
 gp_on
 fin2
 refine⟨fs,rfl,hf,ok,bs,by rw[Xjz],hl,wrT h w L n fs bs,rfl,?_,?_⟩
 .have:=Ycc ⟨⟨h1,h2⟩,⟨w1,w2⟩,hL,hn,hf,ok⟩ hl
  rw[show (wrT h w L n fs bs).length=7 from rfl,show (Str.ofString " ").length=1 from rfl]
  omega
 .rw [Xkk,Xjq]
  exact k
abbrev Xc4:Stmt:=top 90
theorem Xqq:FnScope ["word"] ["word"] (Xac Xc4):=by walk_at "S"
theorem Xrj {f:Addr}{fd:FuncData}(Df:DefAt K mg "read_lift" Xc4 f fd)(B:BltV mg)(KV:KitV K)(CV_Walk:ClsV K "Walk" ns_Walk)(Xdf:Cal P w K mg base "read_number" 2 ["word"] (spV K 1 Xge)):
  Cal P w K mg base "read_lift" 3 ["word"] (spV K 1 Xla):=by
 refine CalV.of Df Xqq (by walk_at "b") rfl (λc A o s H E hr=>⟨_,_,(Xaj (Xax (Xdl Xhg (by rfl) B.tuple PyProof.Rows.boot_tuple (Xaa (Xda rfl (Xgf (Xec plainAttrs_str slot_str_split type_str_split Xpp (pv 0) (Xaa Xb0 Xad))) (show BlkScope (Xac Xc4) _ from⟨rfl,by decide +kernel,by decide +kernel,by decide +kernel⟩) (N:=["part"]) (ix:=[none]) (show Xb2 _ _ _ _ from trivial) (λ_ _ _=>(Xa4 (i:=0) (show List.Nodup (["part"]:List Str) by decide +kernel) rfl (Or.inl rfl))) (λ_ _ _=>(Xa0 Xdf (hr.mono (by decide)) (by rfl) (Xaa (pv 0) Xad)))) Xad)))),
  (Xa1 (Xxk Xu0 (Xab (Xb8 (Xb3 (Xg5 (Xb8 (Xo9 Xae (Xaq Xbk)))) Xa5 (Xau (Xab Xah Xak)))) Xak))),?_⟩)
 rintro ds Pr ⟨f,rfl,ok,k⟩
 fin2
 have ob:=Xl0 ok
 have hs:Txt.split (Xfw f) (Str.ofString ",")=[f.h,f.l,f.r,f.a,f.s].map Xd0:=by
  rw[Xp0]
  exact Xji 44 _ (by simp) (λw hw=>by
   obtain⟨n,hn,rfl⟩:=mem_map.mp (show w∈[f.h,f.l,f.r,f.a,f.s].map Xd0 from hw)
   exact Xdm (by decide) (.inl (by decide)))
 rw[hs,map_map,map_map]
 refine⟨by decide +kernel,?_,?_⟩
 .refine le_trans (Xkz _ _ 5 (λx hx=>?_)) (show 5*(5+1)<=1000000 by decide)
  obtain⟨n,hn,rfl⟩:=mem_map.mp (show x∈[f.h,f.l,f.r,f.a,f.s].map Xd0 from hx)
  exact Xbp (le_trans (ob n hn) (by decide))
 .refine Xix.map [f.h,f.l,f.r,f.a,f.s] (λn=>D.str (Xd0 n)) (λn=>.fz (.int n)) (by show 5<=1000000;decide) (λn hn Q q=>?_) ?_
  .fin2
   obtain⟨l,hl⟩:=Ybk.ex n
   exact⟨n,l,by rw[show Xd0 n=tx l from hl.str],hl,le_trans (ob n hn) (by decide),q⟩
  exact k
abbrev Xb6:Stmt:=top 91
theorem Xns:FnScope ["word"] ["word"] (Xac Xb6):=by walk_at "S"
theorem Xny {f:Addr}{fd:FuncData}(Df:DefAt K mg "read_ladder" Xb6 f fd)(B:BltV mg)(KV:KitV K)(CV_Walk:ClsV K "Walk" ns_Walk)(Xfk:∃t,mg "NO_LIFTS"=some (.str "-" t))(Xjr:Cal P w K mg base "read_lift" 3 ["word"] (spV K 1 Xla)):
  Cal P w K mg base "read_ladder" 4 ["word"] (spV K 1 Xi4):=by
 refine CalV.of Df Xns (by walk_at "b") rfl (λc A o s H E hr=>⟨_,_,(Xag (Xcb (Xbe Xi1 (pv 0) (Xgb (by rfl) Xfk) (Xbg _)) (Xaj (Xax (Xcc Xad))) Xbb)
   (Xaj (Xax (Xdl Xhg (by rfl) B.tuple PyProof.Rows.boot_tuple (Xaa (Xda rfl (Xgf (Xec plainAttrs_str slot_str_split type_str_split Xpp (pv 0) (Xaa Xb0 Xad))) (show BlkScope (Xac Xb6) _ from⟨rfl,by decide +kernel,by decide +kernel,by decide +kernel⟩) (N:=["part"]) (ix:=[none]) (show Xb2 _ _ _ _ from trivial) (λ_ _ _=>(Xa4 (i:=0) (show List.Nodup (["part"]:List Str) by decide +kernel) rfl (Or.inl rfl))) (λ_ _ _=>(Xa0 Xjr (hr.mono (by decide)) (by rfl) (Xaa (pv 0) Xad)))) Xad))))),
  (Xao (Xcg (Xbd (Xas Xi2 Xae (Xaq Xbk))) (Xa1 (Xbf (Xdj Xak))) Xba)
   (Xa1 (Xxk Xu0 (Xab (Xb8 (Xb3 (Xg5 (Xb8 (Xo9 Xae (Xaq Xbk)))) Xa5 (Xau (Xab Xah Xak)))) Xak)))),?_⟩)
 rintro ds Pr ⟨fs,rfl,hl,ok,k⟩
 gn_on
 by_cases z:fs=[]
 .subst z
  rw[if_pos (by rw[Xpr,if_pos rfl,Xit])]
  exact k
 have hll:=Xta hl ok
 rw[if_neg (Ybs z)]
 rw[Xpr,if_neg z]at hll ⊢
 gp_on
 fin2
 rw[show Txt.split (Str.join (tx [59]) (fs.map Xfw)) (Str.ofString ";")=fs.map Xfw by
  rw[Xss]
  exact Xji 59 _ (by simpa using z) (λw hw=>by
   obtain⟨f,hf,rfl⟩:=mem_map.mp hw
   exact Xr0 f (by decide) (.inr (by decide))),map_map,map_map]
 refine⟨by decide +kernel,le_trans hll (by decide),?_⟩
 refine Xix.map fs (λf=>D.str (Xfw f)) (λf=>.fz (lfD f)) (by omega) (λf hf Q q=>?_) ?_
 .fin2
  exact⟨f,rfl,ok f hf,q⟩
 rw[show (OV.nl (fs.map λf=>OV.fz (lfD f))).val=D.lst (fs.map lfD) by rw[OV.val,OV.vals_eq,map_map];rfl]
 exact k
abbrev Xc5:Stmt:=top 92
theorem Xh8:FnScope ["words","numbers","head"] ["words"] (Xac Xc5):=by walk_at "S"
theorem Xrk {f:Addr}{fd:FuncData}(Df:DefAt K mg "read_head" Xc5 f fd)(B:BltV mg)(KV:KitV K)(CV_Walk:ClsV K "Walk" ns_Walk)(Xfx:∃t,mg "NUMBERS_START"=some (.int 1 t))(Xpx:∃t,mg "LIFTS"=some (.int 5 t))(Xdf:Cal P w K mg base "read_number" 2 ["word"] (spV K 1 Xge))(Xhi:Cal P w K mg base "read_ladder" 4 ["word"] (spV K 1 Xi4))(Xnk:Cal P w K mg base "is_head" 4 ["thing"] (spV K 1 Xoi)):
  Cal P w K mg base "read_head" 5 ["words"] (spV K 1 Xlb):=by
 refine CalV.of Df Xh8 (by walk_at "b") rfl (λc A o s H E hr=>⟨_,_,(Xag (Xgq (i:=1) Xh8.nd rfl (Or.inl rfl) rfl (Xgf (Xd9 Xt1 (pv 0) (Xd7 (Xat (by rfl) Xfx)) (Xd7 (Xat (by rfl) Xpx)))) (show BlkScope (Xac Xc5) _ from⟨rfl,by decide +kernel,by decide +kernel,by decide +kernel⟩) (N:=["word"]) (ix:=[none]) (show Xb2 _ _ _ _ from trivial) (λ_ _ _=>(Xa4 (i:=0) (show List.Nodup (["word"]:List Str) by decide +kernel) rfl (Or.inl rfl))) (λ_ _ _=>(Xa0 Xdf (hr.mono (by decide)) (by rfl) (Xaa (pv 0) Xad))))
   (Xag (Xa6 (i:=2) Xh8.nd rfl (Or.inl rfl) (Xdl Xhg (by rfl) B.tuple PyProof.Rows.boot_tuple (Xaa (Xaz Xm1 (pv 1) (Xc0 (Xaa (Xa0 Xhi (hr.mono (by decide)) (by rfl) (Xaa (Xbc Xbt (pv 0) (Xat (by rfl) Xpx) (λ_ _=>rfl)) Xad)) Xad))) Xad)))
   (Xag (Xcb (Xdk (Xch (Xa0 Xnk (hr.mono (by decide)) (by rfl) (Xaa (pv 2) Xad)))) (Xaj Xga) Xbb)
   (Xaj (Xax (pv 2)))))),
  (Xao (Xa2 (Xbf (Xb8 (Xb3 (Xg5 (Xb8 (Ycu Xah (Xj6 (Xaq Xai)) (Xj6 (Xaq Xai))))) Xa5 (Xau (Xab Xah Xak))))))
   (Xao (Xa2 (Xbf (Xb8 (Xxk Xu0 (Xab (Xb8 (Xmr Xah (Xb8 (Xee (Xde (Xau (Xab (Xbs Xdh Xah Xai) Xak)) Xcz))))) Xak)))))
   (Xao (Xcg (Xdi (Xkm (Xb8 (Xau (Xab Xah Xak))))) Xf9 Xba)
   (Xa1 (Xbf Xah))))),?_⟩)
 rintro ds Pr ⟨h,w,L,n,fs,bs,rfl,hd,k⟩
 gn_on
 have hd0:=hd
 obtain⟨⟨h1,h2⟩,⟨w1,w2⟩,hL,hn,hf,ok⟩:=hd
 show Xix _ _ ([(h:Int),w,L,n].map λn=>D.str (Xd0 n)) _ _
 refine Xix.map _ (λn=>D.str (Xd0 n)) (λx=>.fz (.int x)) (by show 4<=1000000;decide) (λx hx Q q=>?_) ?_
 .fin2
  obtain⟨l,hl⟩:=Ybk.ex x
  refine⟨x,l,by rw[show Xd0 x=tx l from hl.str],hl,?_,q⟩
  simp only[mem_cons,not_mem_nil,or_false]at hx
  rcases hx with rfl |rfl |rfl |rfl<;>omega
 gp_on
 gn_on
 refine⟨_,rfl,fs,rfl,hf,ok,?_⟩
 gp_on
 gn_on
 refine⟨h,w,L,n,fs,rfl,hd0,?_⟩
 dsimp only[OV.val]
 rw[if_neg (by decide)]
 gp_on
 fin2
 exact k
def Xid (h w L n:Nat)(fs:List Lf):List Str:=[Str.ofString "liftwave",Xd0 h,Xd0 w,Xd0 L,Xd0 n,Xpr fs]
theorem Yjk {n:Nat}{i:Int}(h0:0<=i)(h:i<n):ixN n i=some i.toNat:=by
 unfold ixN
 rw[if_pos h0]
 try rw[if_pos (by omega)]
def Xi7:DSp:=λds P=>∃(ns:List Int) (h w:Nat) (mo:Int),ds=[.lst (ns.map .int),.int h,.int w,.int mo]/\ns.length<=1000/\(0<h/\h<=64/\0<w/\w<=64)/\(0<=mo/\mo<=1000000000000000000000000000000)/\∀e:Nat->Nat->Int,(∀i j,-mo<=e i j/\e i j<=mo)->P (.nl (shT D.int h w e))
def Xmc:DSp:=λds P=>∃(h w L n:Nat) (fs:List Lf),ds=[hdD h w L n fs]/\Yae h w L n fs/\P (.fz (.str (Str.join (tx [32]) (Xid h w L n fs)++tx [32])))
theorem Ynn (i:Int)(h0:0<=i)(h4:i<4):∃fs:List Lf,fs.length<=3/\(∀f∈fs,f.Ok)/\∃x:Str,atI [D.str (Str.ofString "still"),D.str (Str.ofString "pair"),D.str (Str.ofString "line"),D.str (Str.ofString "long")] i=some (.str x)/\Ylo.lookup x=some (Xll fs):=by
 have ok:∀h l r a s:Int,(h=0∨h=1)->(-8<=l/\l<=8)->(-8<=r/\r<=8)->(-64<=a/\a<=64)->(0<=s/\s<=8)->(⟨h,l,r,a,s⟩:Lf).Ok:=λh l r a s h1 h2 h3 h4 h5=>⟨h1,h2,h3,h4,h5⟩
 have o1:=ok 1 (-1) 0 0 0 (.inr rfl) (by decide) (by decide) (by decide) (by decide)
 have o2:=ok 0 0 1 0 1 (.inl rfl) (by decide) (by decide) (by decide) (by decide)
 have o3:=ok 1 (-1) (-1) 1 1 (.inr rfl) (by decide) (by decide) (by decide) (by decide)
 have o4:=ok 0 1 1 2 2 (.inl rfl) (by decide) (by decide) (by decide) (by decide)
 have o5:=ok 1 (-1) (-1) 4 3 (.inr rfl) (by decide) (by decide) (by decide) (by decide)
 rcases (show i=0∨i=1∨i=2∨i=3 by omega) with rfl |rfl |rfl |rfl
 .exact ⟨[],by decide,(λf hf=>by cases hf),_,rfl,rfl⟩
 .refine ⟨[⟨1,-1,0,0,0⟩,⟨0,0,1,0,1⟩],by decide,λf hf=>?_,_,rfl,rfl⟩
  simp only[mem_cons,not_mem_nil,or_false]at hf
  rcases hf with rfl |rfl
  .exact o1
  .exact o2
 .refine ⟨[⟨1,-1,-1,1,1⟩,⟨0,1,1,2,2⟩],by decide,λf hf=>?_,_,rfl,rfl⟩
  simp only[mem_cons,not_mem_nil,or_false]at hf
  rcases hf with rfl |rfl
  .exact o3
  .exact o4
 .refine ⟨[⟨1,-1,-1,1,1⟩,⟨0,1,1,2,2⟩,⟨1,-1,-1,4,3⟩],by decide,λf hf=>?_,_,rfl,rfl⟩
  simp only[mem_cons,not_mem_nil,or_false]at hf
  rcases hf with rfl |rfl |rfl
  .exact o3
  .exact o4
  .exact o5
abbrev Xb7:Stmt:=top 97
theorem Xew:FnScope ["_law_script","_law_high","_law_wide","_law_most","_law_cells","_law_k","_law_at"] ["_law_script","_law_high","_law_wide","_law_most"] (Xac Xb7):=by walk_at "S"
theorem Xn1 {f:Addr}{fd:FuncData}(Df:DefAt K mg "_law_picture" Xb7 f fd)(B:BltV mg)(KV:KitV K)(CV_Walk:ClsV K "Walk" ns_Walk):
  Cal P w K mg base "_law_picture" 1 ["_law_script","_law_high","_law_wide","_law_most"] (spV K 4 Xi7):=by
 refine CalV.of Df Xew (by walk_at "b") rfl (λc A o s H E hr=>⟨_,_,(Xag (Xa6 (i:=4) Xew.nd rfl (Or.inr rfl) (Xaz Yix (Xc0 (Xaa Xal Xad)) (Xaz Xjf (pv 1) (pv 2))))
   (Xag (Xgr PassesOwn.never rfl (Xd8 (by rfl) (by exact B.range) (Xaa (Xap Xaw (by rfl) B.len boot_len (Xaa (pv 0) Xad)) Xad)) (Xa4 (i:=5) Xew.nd rfl (Or.inl rfl)) (Xag (Xa6 (i:=6) Xew.nd rfl (Or.inl rfl) (Xaz Xea (pv 5) (Xap Xaw (by rfl) B.len boot_len (Xaa (pv 4) Xad))))
   (Xaj (Xue (Xaz Xea (Xaz Xef (Xaz Xjf (Xbc Xbt (pv 4) (pv 6) (λ_ _=>rfl)) Xal) (Xbc Xbt (pv 0) (pv 5) (λ_ _=>rfl))) (Xaz Xef (Xaz Xjf Xal (pv 3)) Xal)) (Xx2 (pv 4) (pv 6) Xly)))))
   (Xaj (Xax (Ybb rfl (Xd8 (by rfl) (by exact B.range) (Xaa (pv 1) Xad)) (show Blk1 (Xac Xb7) _ "_law_i" from⟨rfl,λ_ _=>rfl,λ_=>rfl,by decide +kernel,by decide +kernel,by decide +kernel,by decide +kernel,by decide +kernel⟩) (N:=["_law_i","_law_most","_law_cells","_law_wide"]) (ix:=[none,some 3,some 4,some 2]) (show Xb2 _ _ _ _ from⟨⟨rfl,rfl,.inl rfl⟩,⟨rfl,rfl,.inl rfl⟩,⟨rfl,rfl,.inl rfl⟩,trivial⟩) (λ_ _ _=>(Xa4 (i:=0) (show List.Nodup (["_law_i","_law_most","_law_cells","_law_wide"]:List Str) by decide +kernel) rfl (Or.inr rfl))) (λ_ _ _=>(Yba rfl (Xd8 (by rfl) (by exact B.range) (Xaa (pv 3) Xad)) (N:=["_law_j","_law_most","_law_cells","_law_i","_law_wide"]) (ix:=[none,some 1,some 2,some 0,some 3]) (show Xb2 _ _ _ _ from⟨⟨rfl,rfl,.inl rfl⟩,⟨rfl,rfl,.inl rfl⟩,⟨rfl,rfl,.inl rfl⟩,⟨rfl,rfl,.inl rfl⟩,trivial⟩) (by rfl) (by decide +kernel) (by decide +kernel) (by decide +kernel) (λ_ _ _=>(Xa4 (i:=0) (show List.Nodup (["_law_j","_law_most","_law_cells","_law_i","_law_wide"]:List Str) by decide +kernel) rfl (Or.inl rfl))) (λ_ _ _=>(Xaz Xfb (Xbc Xbt (pv 2) (Xaz Xef (Xaz Xjf (pv 3) (pv 4)) (pv 0)) (λ_ _=>rfl)) (pv 1)))))))))),
  (Xao (Xa2 (Yer (Xee (Xde (Xbf Xai) Xcz)) (Xaq (Xas Xey Xae Xae))))
   (Xao (Xgp (Xg4 (Xaf (Xaq (Xbh Xdb (Xaf Xae Xam))) Xam)) Xa5 (Xao (Xa2 (Xbf (Xas Xey Xae (Xaq (Xbh Xdb (Xaf Xae Xam))))))
   (Ycs (Xbf (Xas Xey (Xaq (Xas Xc1 (Xaq (Xas Xey (Xca (OpF.b Xdh) Xae Xae) (Xaq Xai))) (Xca (OpF.b Xdh) Xae Xae))) (Xaq (Xas Xc1 (Xaq (Xas Xey (Xaq Xai) Xae)) (Xaq Xai))))) Xae)))
   (Xxf 4 (Xa1 (Xb3 (Xg4 (Xaf Xae Xam)) Xa5 (Xb3 (Xg4 (Xaf Xae Xam)) Xa5 (Xbf (Xas Xc1 (Xca (OpF.b Xdh) Xae (Xaq (Xas Xc1 (Xaq (Xas Xey Xae Xae)) Xae))) Xae)))))))),?_⟩)
 rintro ds Pr ⟨ns,h,w',mo,rfl,hl,⟨h0,hh,w0,hw⟩,⟨m0,m1⟩,k⟩
 have hm:h*w'<=4096:=mul_le_mul hh hw
 have hm0:0<h*w':=mul_pos h0 w0
 gn_on
 rw[<- Int.natCast_mul]
 refine⟨.inl ⟨by omega,by omega⟩,⟨by omega,by omega⟩,?_⟩
 rw[toNat_natCast]
 gp_on
 gn_on
 refine⟨⟨by omega,by omega⟩,λn δ=>∃(cs:List Int) (o5 o6:Option Sl),δ=[vD (.lst (ns.map .int)),vI h,vI w',vI mo,some (.own (.nl (cs.map λc=>.fz (.int c)))),o5,o6]/\cs.length=h*w'/\∀c∈cs,0<=c/\c<2*mo+1,⟨List.replicate (h*w') 0,none,none,?_,by simp,λc hc=>?_⟩,?_,?_⟩
 .rw [List.map_replicate]
 .rw [(mem_replicate.mp hc).2]
  exact⟨Int.le_refl _,by omega⟩
 .rintro n d δ hd ⟨cs,o5,o6,rfl,hcl,hcr⟩
  obtain⟨hn,rfl⟩:=Xg8 hd
  simp only[gN,set_cons_succ,set_cons_zero]
  gn_on
  rw[hcl]
  refine⟨by omega,?_⟩
  have ha0:0<=(0+(n:Int)*1)%((h*w':Nat):Int):=emod_nonneg _ (by omega)
  have ha1:(0+(n:Int)*1)%((h*w':Nat):Int)<((h*w':Nat):Int):=Int.emod_lt_of_pos _ (by omega)
  generalize (0+(n:Int)*1)%((h*w':Nat):Int)=at' at ha0 ha1
  gp_on
  fin2
  refine⟨_,Xho ha0 (by rw[hcl];exact ha1),.inr ⟨by decide,by decide⟩,_,Xho (by omega) (by omega),by omega,at'.toNat,by rw[hcl];exact Yjk ha0 ha1,_,_,_,rfl,by rw[length_set];exact hcl,λc hc=>?_⟩
  rcases List.mem_or_eq_of_mem_set hc with z |z
  .exact hcr c z
  .rw [z]
   exact⟨emod_nonneg _ (by omega),Int.emod_lt_of_pos _ (by omega)⟩
 .rintro δ ⟨cs,o5,o6,rfl,hcl,hcr⟩
  gp_on
  fin2
  refine⟨⟨by omega,by omega⟩,?_⟩
  refine Xix.rng (λi=>.nl (tab w' λj=>.fz (.int (if i<h/\j<w' then cs.getD (i*w'+j) 0-mo else 0)))) (by omega) (λi hi Q q=>?_) ?_
  .fin2
   refine⟨⟨by omega,by omega⟩,?_⟩
   refine Xix.rng (λj=>.fz (.int (if i<h/\j<w' then cs.getD (i*w'+j) 0-mo else 0))) (by omega) (λj hj Q q=>?_) ?_
   .fin2
    have hlt:i*w'+j<h*w':=by
     have:=mul_le_mul_right w' (show i+1<=h by omega)
     rw[succ_mul]at this
     omega
    have eI:(0+(i:Int)*1)*(w':Int)+(0+(j:Int)*1)=((i*w'+j:Nat):Int):=by
     rw[zero_add,mul_one,zero_add,mul_one,Int.natCast_add,Int.natCast_mul]
    refine⟨.inl ⟨by omega,by omega⟩,?_⟩
    rw[eI]
    refine⟨_,Xho (by omega) (by rw[hcl];omega),?_⟩
    rw[if_pos ⟨by omega,by omega⟩]at q
    exact q
   .exact q
  .refine k (λi j=>if i<h/\j<w' then cs.getD (i*w'+j) 0-mo else 0) λi j=>?_
   try dsimp only
   split
   .rename_i z
    have hlt:i*w'+j<h*w':=by
     have:=mul_le_mul_right w' (show i+1<=h by omega)
     rw[succ_mul]at this
     omega
    have:=hcr _ (getElem_mem (by rw[hcl];exact hlt))
    rw[getD_eq_getElem?_getD,getElem?_eq_getElem (by rw[hcl];exact hlt)]
    show -mo<=cs[i*w'+j]-mo/\cs[i*w'+j]-mo<=mo
    omega
   .omega
theorem Ybp {h w L n:Nat}{fs:List Lf}(h1:1<=h)(h2:h<=64)(w1:1<=w)(w2:w<=64)(hL:L<=6)(hn:n<=4000)(hf:fs.length<=6)(ok:∀f∈fs,f.Ok):((Xid h w L n fs).map (·.length)).sum<=300:=by
 have e1:=Xbp (n:=h) (by omega)
 have e2:=Xbp (n:=w) (by omega)
 have e3:=Xbp (n:=L) (by omega)
 have e4:=Xbp (n:=n) (by omega)
 have e5:=Xta hf ok
 exact le_trans (add_le_add (show (Str.ofString "liftwave").length<=8 by decide +kernel) (add_le_add e1 (add_le_add e2 (add_le_add e3 (add_le_add e4 (add_le_add e5 (Nat.le_refl 0))))))) (by decide)
abbrev Xdd:Stmt:=top 98
theorem Xgz:FnScope ["_law_head","_law_words","_law_lifts"] ["_law_head"] (Xac Xdd):=by walk_at "S"
theorem Xs3 {f:Addr}{fd:FuncData}(Df:DefAt K mg "_law_line" Xdd f fd)(B:BltV mg)(KV:KitV K)(CV_Walk:ClsV K "Walk" ns_Walk):
  Cal P w K mg base "_law_line" 1 ["_law_head"] (spV K 1 Xmc):=by
 refine CalV.of Df Xgz (by walk_at "b") rfl (λc A o s H E hr=>⟨_,_,(Xag (Xa6 (i:=1) Xgz.nd rfl (Or.inl rfl) (Xaz Xm1 (Xc0 (Xaa Xb0 Xad)) (Xda rfl (Xli (Xd9 Xw9 (pv 0) Xh9 (Xd7 Xal))) (show BlkScope (Xac Xdd) _ from⟨rfl,by decide +kernel,by decide +kernel,by decide +kernel⟩) (N:=["_law_number"]) (ix:=[none]) (show Xb2 _ _ _ _ from trivial) (λ_ _ _=>(Xa4 (i:=0) (show List.Nodup (["_law_number"]:List Str) by decide +kernel) rfl (Or.inl rfl))) (λ_ _ _=>(Xdl Xgd (by rfl) B.str PyProof.Rows.boot_str (Xaa (pv 0) Xad))))))
   (Xag (Xgq (i:=2) Xgz.nd rfl (Or.inl rfl) rfl (Xli (Xbc Xa9 (pv 0) Xal (λ_ _=>rfl))) (show BlkScope (Xac Xdd) _ from⟨rfl,by decide +kernel,by decide +kernel,by decide +kernel⟩) (N:=["_law_lift"]) (ix:=[none]) (show Xb2 _ _ _ _ from trivial) (λ_ _ _=>(Xa4 (i:=0) (show List.Nodup (["_law_lift"]:List Str) by decide +kernel) rfl (Or.inl rfl))) (λ_ _ _=>(Xec plainAttrs_str slot_str_join type_str_join Xg9 Xb0 (Xaa (Xda rfl (Xli (pv 0)) (BlkScope.nofree (by rfl) (by decide +kernel) (by decide +kernel) (by decide +kernel)) (N:=["_law_number"]) (ix:=[none]) (show Xb2 _ _ _ _ from trivial) (λ_ _ _=>(Xa4 (i:=0) (show List.Nodup (["_law_number"]:List Str) by decide +kernel) rfl (Or.inl rfl))) (λ_ _ _=>(Xdl Xgd (by rfl) B.str PyProof.Rows.boot_str (Xaa (pv 0) Xad)))) Xad))))
   (Xag (Xcb (Xbe (Yc6 hr.units) (pv 2) (Xc0 Xad) (Xbg _)) (Xaj (Xa6 (i:=2) Xgz.nd rfl (Or.inl rfl) (Xc0 (Xaa Xb0 Xad)))) Xbb)
   (Xaj (Xax (Xaz Xos (Xec plainAttrs_str slot_str_join type_str_join Xg9 Xb0 (Xaa (Xaz Xm1 (pv 1) (Xc0 (Xaa (Xec plainAttrs_str slot_str_join type_str_join Xg9 Xb0 (Xaa (pv 2) Xad)) Xad))) Xad)) Xb0)))))),
  (Xao (Xa2 (Xbf (Xb8 (Xmr (Xb8 (Xee (Xde (Xbf Xbk) Xcz))) (Xb8 (Xb3 (Xlg (Ycx Xah Xq1 (Xj6 (Xaq Xai)))) Xa5 (Xbf (Xbh Xuz (Xaf Xae Xam)))))))))
   (Xao (Xa2 (Xbf (Xb8 (Xb3 (Xlg (Xbs Xa8 Xah Xai)) Xa5 (Xbf (Xg6 (Xaq Xbk) (Xaq (Xb8 (Xb3 (Xlg Xah) Xa5 (Xbf (Xbh Xuz (Xaf Xae Xam))))))))))))
   (Xao (Xcg (Xbd (Xas Yc9 Xae (Xaq (Xb8 (Xee Xcz))))) (Xa2 (Xbf (Xb8 (Xee (Xde (Xbf Xbk) Xcz))))) Xba)
   (Xa1 (Xbf (Xas Xyn (Xaq (Xg6 (Xaq Xbk) (Xaq (Xb8 (Xmr Xah (Xb8 (Xee (Xde (Xbf (Xg6 (Xaq Xbk) Xae)) Xcz)))))))) (Xaq Xbk))))))),?_⟩)
 rintro ds Pr ⟨h,w,L,n,fs,rfl,hd,k⟩
 gn_on
 obtain⟨⟨h1,h2⟩,⟨w1,w2⟩,hL,hn,hf,ok⟩:=hd
 show Xix _ _ ([(h:Int),w,L,n].map D.int) _ _
 refine Xix.map _ D.int (λx=>.fz (.str (Xd0 x))) (by show 4<=1000000;decide) (λx hx Q q=>?_) ?_
 .fin2
  refine⟨Nat.lt_trans (Xry ?_) (by decide),q⟩
  simp only[mem_cons,not_mem_nil,or_false]at hx
  rcases hx with rfl |rfl |rfl |rfl<;>omega
 fin2
 gp_on
 gn_on
 unfold Xll
 show Xix _ _ (fs.map lfD) _ _
 refine Xix.map fs lfD (λf=>.fz (.str (Xfw f))) (by omega) (λf hf Q q=>?_) ?_
 .unfold lfD
  fin2
  have ob:=Xl0 (ok f hf)
  refine Xix.map [f.h,f.l,f.r,f.a,f.s] D.int (λx=>.fz (.str (Xd0 x))) (by show 5<=1000000;decide) (λx hx Q q=>?_) ?_
  .fin2
   exact⟨Nat.lt_of_le_of_lt (Nat.log2_le_self _) (by have:=ob x hx;omega),q⟩
  refine⟨[Xd0 f.h,Xd0 f.l,Xd0 f.r,Xd0 f.a,Xd0 f.s],rfl,?_,?_⟩
  .have h1:=Xbp (le_trans (ob f.h (by simp)) (by decide))
   have h2:=Xbp (le_trans (ob f.l (by simp)) (by decide))
   have h3:=Xbp (le_trans (ob f.r (by simp)) (by decide))
   have h4:=Xbp (le_trans (ob f.a (by simp)) (by decide))
   have h5:=Xbp (le_trans (ob f.s (by simp)) (by decide))
   show (Xd0 f.h).length+((Xd0 f.l).length+((Xd0 f.r).length+((Xd0 f.a).length+((Xd0 f.s).length+0))))+5*(Str.ofString ",").length<=16777216
   rw[show (Str.ofString ",").length=1 from rfl]
   omega
  .rw [Xp0,Xjq]
   exact q
 fin2
 gp_on
 gn_on
 have ev:List.map OV.val (List.map (λf=>OV.fz (D.str (Xfw f))) fs)=(fs.map Xfw).map D.str:=by rw[map_map,map_map];rfl
 rw[ev]
 have hsum:=Ybp h1 h2 w1 w2 hL hn hf ok
 have hfit:D.fit 4 (D.lst ((fs.map Xfw).map D.str))=true:=by
  simp only[D.fit,all_eq_true]
  intro d hd
  obtain⟨x,_,rfl⟩:=mem_map.mp hd
  rfl
 refine⟨hfit,rfl,?_⟩
 have fin:∀ls:List Str,Str.join (tx [59]) ls=Xpr fs->(ls.map (·.length)).sum+ls.length*1<=200->N [vD (hdD h w L n fs),vD (.lst [.str (Str.ofString "liftwave"),.str (Xd0 h),.str (Xd0 w),.str (Xd0 L),.str (Xd0 n)]),vD (.lst (ls.map .str))]:=by
  intro ls e1 e2
  gp_on
  fin2
  refine⟨ls,rfl,?_,Xid h w L n fs,?_,?_,?_,?_⟩
  .rw [show (Str.ofString ";").length=1 from rfl]
   omega
  .rw [Xss,Xjq,e1]
   rfl
  .rw [show (Xid h w L n fs).length=6 from rfl,show (Str.ofString " ").length=1 from rfl]
   omega
  .rw [Xkk,Xjq]
   have:=PySem.StrLaws.join_length_le (tx [32]) (Xid h w L n fs)
   rw[show (Xid h w L n fs).length=6 from rfl]at this
   rw[show (tx [32]).length=1 from rfl]at this ⊢
   omega
  .rw [Xkk,Xjq]
   exact k
 by_cases z:fs=[]
 .rw [if_pos (by rw[z];rfl)]
  exact fin [Str.ofString "-"] (by rw[Xpr,if_pos z,Xit];rfl) (by decide +kernel)
 .rw [if_neg (by cases fs with |nil=>exact absurd rfl z |cons f r=>intro q;cases q)]
  refine fin (fs.map Xfw) (by rw[Xpr,if_neg z]) ?_
  have h1:∀y∈fs.map Xfw,y.length<=30:=λy hy=>by
   obtain⟨f,hf,rfl⟩:=mem_map.mp hy
   exact Xpq (ok f hf)
  have h2:=Yco h1
  rw[length_map]at h2
  rw[length_map]
  omega
theorem Yd3 (h w L n:Nat)(fs:List Lf)(bs:List Bool):Str.join (tx [32]) (Xid h w L n fs)++tx [32]++lT (pk bs)=Str.join (tx [32]) (wrT h w L n fs bs):=by
 have e:∀x y z:Str,x++y++z=x++(y++z):=λx y z=>by
  show Str.mk (x.cps++y.cps++z.cps)=Str.mk (x.cps++(y.cps++z.cps))
  rw[Array.append_assoc]
 show (Str.ofString "liftwave"++tx [32]++(Xd0 h++tx [32]++(Xd0 w++tx [32]++(Xd0 L++tx [32]++(Xd0 n++tx [32]++Xpr fs)))))++tx [32]++lT (pk bs)=Str.ofString "liftwave"++tx [32]++(Xd0 h++tx [32]++(Xd0 w++tx [32]++(Xd0 L++tx [32]++(Xd0 n++tx [32]++(Xpr fs++tx [32]++lT (pk bs))))))
 simp only[e]
theorem Ybj {h w L:Nat}{e:Nat->Nat->Int}{fs:List Lf}:(Xkx h w e fs L).length=h*w:=by
 unfold Xkx
 rw[length_map,Xjn]
theorem Xpz {c:Nat}:∀{ws:List (List Nat)},ws≠[]->(∀w∈ws,c∉w)->(jn c ws).count c+1=ws.length
 | [],h,_=>absurd rfl h
 | [w],_,h=>by
  show w.count c+1=1
  rw[List.count_eq_zero.mpr (h w mem_cons_self)]
 |w::v::ws,_,h=>by
  show (w++c::jn c (v::ws)).count c+1=ws.length+1+1
  rw[List.count_append,List.count_cons_self,List.count_eq_zero.mpr (h w mem_cons_self)]
  have:=Xpz (ws:=v::ws) (by simp) (λx hx=>h x (mem_cons_of_mem _ hx))
  rw[length_cons]at this
  omega
theorem Xw4 (c:Nat)(s:Str):(Txt.split s ⟨#[c]⟩).length=s.cps.toList.count c+1:=by
 have e1:=PySem.StrLaws.join_split s ⟨#[c]⟩
 have e2:=PySem.StrLaws.split_free s c
 have hp:Txt.split s ⟨#[c]⟩≠[]:=λz=>by
  have e3:=e1
  rw[z]at e3
  have e4:Txt.split s ⟨#[c]⟩=[s]:=if_pos (by
   rw[or_eq_true]
   exact .inl (decide_eq_true (by rw[<- e3];exact Nat.zero_lt_one)))
  rw[e4]at z
  cases z
 generalize Txt.split s ⟨#[c]⟩=ps at e1 e2 hp
 have e4:=congrArg (λx:Str=>x.cps.toList) e1
 simp only[Xjp]at e4
 have:=Xpz (c:=c) (ws:=ps.map λx=>x.cps.toList) (by simpa using hp) (λw hw=>by obtain⟨x,hx,rfl⟩:=mem_map.mp hw;exact e2 x hx)
 rw[e4,length_map]at this
 omega
theorem Xxz:∀(k:Nat) (bs:List Bool),(pk bs).take k=pk (bs.take (4*k))
 | 0,bs=>by rw[List.take_zero,Nat.mul_zero,List.take_zero];rfl
 |k+1,a::b::c::d::r=>by
  rw[show 4*(k+1)=4*k+1+1+1+1 by omega]
  show wor a b c d::(pk r).take k=wor a b c d::pk (r.take (4*k))
  rw[Xxz k r]
 |k+1,[]=>by rw[List.take_nil];rfl
 |k+1,[a]=>by rw[take_of_length_le (show [a].length<=4*(k+1) by simp;omega),take_of_length_le (by show 1<=k+1;omega)]
 |k+1,[a,b]=>by rw[take_of_length_le (show [a,b].length<=4*(k+1) by simp;omega),take_of_length_le (by show 1<=k+1;omega)]
 |k+1,[a,b,c]=>by rw[take_of_length_le (show [a,b,c].length<=4*(k+1) by simp;omega),take_of_length_le (by show 1<=k+1;omega)]
def Xed (h w L n:Nat)(fs:List Lf):Str:=Str.join (tx [32]) (Xid h w L n fs)++tx [32]
def Xd5 (h w L n:Nat)(fs:List Lf)(bs:List Bool):Str:=Str.join (tx [32]) (wrT h w L n fs bs)
def Rd (h w n:Nat)(bs:List Bool)(u:Nat)(v:Wk):Prop:=Fol (wk0 (h*w) n) (fl bs) v/\v.us=u/\u<=(fl bs).length/\(fl bs).length<=u+3/\∀b∈(fl bs).drop u,b=false
theorem Xlw {h w L n:Nat}{fs:List Lf}{bs:List Bool}(hd:Yae h w L n fs)(hl:bs.length<=900000):(Xd5 h w L n fs bs).length<=1000000:=by
 have:=Ycc hd hl
 refine le_trans (PySem.StrLaws.join_length_le _ _) ?_
 rw[show (wrT h w L n fs bs).length=7 from rfl,Xc3]
 simp only[length_cons,length_nil]
 omega
theorem Xj5 (x y:Str):(x++y).length=x.length+y.length:=size_append ..
theorem Xs9 (h w L n:Nat)(fs:List Lf):(Str.join (tx [32]) (Xid h w L n fs)).cps.toList.count 32=5:=by
 have:=Xpz (c:=32) (ws:=(Xid h w L n fs).map λx=>x.cps.toList) (by simp[Xid]) (λx hx=>by
  obtain⟨y,hy,rfl⟩:=mem_map.mp hx
  unfold Xid at hy
  simp only[mem_cons,not_mem_nil,or_false]at hy
  rcases hy with rfl |rfl |rfl |rfl |rfl |rfl
  .decide +kernel
  .exact Xdm (by decide) (.inl (by decide))
  .exact Xdm (by decide) (.inl (by decide))
  .exact Xdm (by decide) (.inl (by decide))
  .exact Xdm (by decide) (.inl (by decide))
  .exact Xuo fs (by decide) (.inl (by decide)))
 rw[show tx [32]=⟨#[32]⟩ from rfl,Xjp]
 rw[length_map,show (Xid h w L n fs).length=6 from rfl]at this
 omega
theorem Xiq (h w L n:Nat)(fs:List Lf)(bs:List Bool):Xd5 h w L n fs bs=Xed h w L n fs++lT (pk bs):=by
 unfold Xd5 Xed
 exact (Yd3 ..).symm
theorem Xqb {h w L n:Nat}{fs:List Lf}{bs:List Bool}(hd:Yae h w L n fs)(hl:bs.length<=900000):(Xed h w L n fs).length+(pk bs).length<=1000000:=by
 have e:=Xlw hd hl
 rw[Xiq,Xj5]at e
 have e2:(lT (pk bs)).length=(pk bs).length:=by rw[Xc3,length_map]
 omega
theorem Xzy {h w L n:Nat}{fs:List Lf}{bs:List Bool}{c:Nat}(hc:c<=(Xd5 h w L n fs bs).length)(z:c<(Xed h w L n fs).length):(Txt.split (Txt.slice (Xd5 h w L n fs bs) none (some (c:Int))) (Str.ofString " ")).length≠7:=by
 rw[Xkk,show tx [32]=⟨#[32]⟩ from rfl,Xw4,Xwn _ hc]
 have e2:(Xd5 h w L n fs bs).cps.toList=(Str.join (tx [32]) (Xid h w L n fs)).cps.toList++(32::(lT (pk bs)).cps.toList):=by
  rw[Xiq]
  unfold Xed
  show ((Str.join (tx [32]) (Xid h w L n fs)).cps++#[32]++(lT (pk bs)).cps).toList=_
  rw[toList_append,toList_append,append_assoc]
  rfl
 have e3:c<=(Str.join (tx [32]) (Xid h w L n fs)).cps.toList.length:=by
  unfold Xed at z
  rw[Xj5,show (tx [32]).length=1 from rfl]at z
  rw[length_toList]
  exact Nat.lt_succ_iff.mp z
 have e4:=Xs9 h w L n fs
 generalize (Str.join (tx [32]) (Xid h w L n fs)).cps.toList=A at e2 e3 e4
 rw[e2,List.take_append_of_le_length e3]
 have e5:(A.take c).count 32<=5:=by
  rw[<- e4]
  exact List.Sublist.count_le _ (List.take_sublist _ _)
 generalize A.take c=B at e5
 rw[show (Str.mk B.toArray).cps.toList=B from rfl]
 omega
theorem Yb3 {h w L n:Nat}{fs:List Lf}{bs:List Bool}{j:Nat}(hj:(Xed h w L n fs).length+j<=(Xd5 h w L n fs bs).length):Txt.slice (Xd5 h w L n fs bs) none (some (((Xed h w L n fs).length+j:Nat):Int))=Xd5 h w L n fs (bs.take (4*j)):=by
 rw[Xwn _ hj,Xiq,Xiq]
 generalize Xed h w L n fs=A
 rw[<- Xxz]
 generalize pk bs=B
 show Str.mk ((A.cps++(lT B).cps).toList.take (A.cps.size+j)).toArray=Str.mk (A.cps++(lT (B.take j)).cps)
 congr 1
 rw[toList_append,<- length_toList,List.take_length_add_append]
 show (A.cps.toList++(B.map (97+·)).take j).toArray=A.cps++((B.take j).map (97+·)).toArray
 rw[map_take]
 simp
theorem Xv4 {n i:Nat}:Builtin.Str.strSliceIndices none (some (i:Int)) 1 n=Builtin.Str.strSliceIndices none (some ((min i n:Nat):Int)) 1 n:=by
 unfold Builtin.Str.strSliceIndices sliceRange
 have e0:¬ ((i:Int)<0):=by omega
 have e2:¬ (((min i n:Nat):Int)<0):=by omega
 simp only[e0,e2,if_false,show (1:Int) > 0 by decide,if_true]
 have e:max 0 (min (i:Int) (n:Int))=((min i n:Nat):Int):=by omega
 have e4:max 0 (min ((min i n:Nat):Int) (n:Int))=((min i n:Nat):Int):=by omega
 rw[e,e4]
theorem Xw1 (bs:List Bool)(i:Nat):Txt.slice (Xcf bs) none (some (i:Int))=Xcf (bs.take i):=by
 have e:Txt.slice (Xcf bs) none (some (i:Int))=Txt.slice (Xcf bs) none (some ((min i bs.length:Nat):Int)):=by
  unfold Txt.slice
  rw[Xv4,Xfm]
 rw[e,Xty _ (by omega)]
 congr 1
 by_cases h:i<=bs.length
 .rw [Nat.min_eq_left h]
 .rw [Nat.min_eq_right (by omega),take_length,take_of_length_le (by omega)]
theorem Yb2 {bs:List Bool}(h:bs.length%4=0):fl bs=bs:=by
 unfold fl
 rw[h]
 simp
seal Xed Xd5
def Xh0:Yhg:=λds P X=>∃s:Str,ds=[.str s]/\s.length<=1000000/\((∃(h w L n:Nat) (fs:List Lf) (bs:List Bool) (u:Nat) (v:Wk),s=Xd5 h w L n fs bs/\Yae h w L n fs/\bs.length<=900000/\Rd h w n bs u v/\P (.fz (.tup [hdD h w L n fs,.str (Xcf ((fl bs).take u)),.bl (decide (v.pl<0))])))∨((Txt.split s (Str.ofString " ")).length≠7/\X "NoText"))
def Xj1:DSp:=λds P=>∃c:Int,ds=[.int c]/\∀fs:List Lf,fs.length<=6->(∀f∈fs,f.Ok)->P (.fz (Xll fs))
def Xjj:DSp:=λds P=>∃(h w L n:Nat) (fs:List Lf) (bs:List Bool) (u:Nat) (v:Wk),ds=[.str (Xd5 h w L n fs bs),hdD h w L n fs,.str (Xcf ((fl bs).take u)),.bl (decide (v.pl<0))]/\Yae h w L n fs/\bs.length<=900000/\Rd h w n bs u v/\P (.fz (.bl true))
def Xi6:DSp:=λds P=>∃s:Str,ds=[.str s]/\s.length<=1000000/\(Txt.split s (Str.ofString " ")).length≠7/\P (.fz (.bl true))
def Xkn:DSp:=λds P=>∃(h w L n:Nat) (fs:List Lf) (bs:List Bool) (v:Wk) (c:Nat),ds=[.str (Xd5 h w L n fs bs),.str (Xed h w L n fs),hdD h w L n fs,.str (Xcf bs),.int c]/\Yae h w L n fs/\bs.length<=900000/\Fol (wk0 (h*w) n) bs v/\v.pl<0/\v.us=bs.length/\c<=(Xd5 h w L n fs bs).length/\P (.fz (.bl true))
abbrev Xc7:Stmt:=top 96
theorem Xd6:FnScope ["_law_cell","_law_names","_law_some","_law_k"] ["_law_cell"] (Xac Xc7):=by walk_at "S"
theorem Xpk {f:Addr}{fd:FuncData}(Df:DefAt K mg "_law_ladder" Xc7 f fd)(B:BltV mg)(KV:KitV K)(CV_Walk:ClsV K "Walk" ns_Walk)(Xen:Cal P w K mg base "ladder_of" 1 ["name"] (spV K 1 Xh1)):
  Cal P w K mg base "_law_ladder" 2 ["_law_cell"] (spV K 1 Xj1):=by
 refine CalV.of Df Xd6 (by walk_at "b") rfl (λc A o s H E hr=>⟨_,_,(Xag (Xa6 (i:=1) Xd6.nd rfl (Or.inl rfl) (Xc0 (Xaa Xb0 (Xaa Xb0 (Xaa Xb0 (Xaa Xb0 Xad))))))
   (Xag (Xcb (Xbe Xrh (Xaz Xea (pv 0) Xal) Xal (Xbg _)) (Xaj (Xax (Xa0 Xen (hr.mono (by decide)) (by rfl) (Xaa (Xbc Xbt (pv 1) (Xaz Xea (pv 0) Xal) (λ_ _=>rfl)) Xad)))) Xbb)
   (Xag (Xa6 (i:=2) Xd6.nd rfl (Or.inl rfl) (Xc0 Xad))
   (Xag (Xgr PassesOwn.never rfl (Xd8 (by rfl) (by exact B.range) (Xaa (Xaz Xfb (Xaz Xea (pv 0) Xal) Xal) Xad)) (Xa4 (i:=3) Xd6.nd rfl (Or.inl rfl)) (Xag (Xa6 (i:=0) Xd6.nd rfl (Or.inl rfl) (Xaz Xe7 (pv 0) Xal))
   (Xaj (Xbz (Xec plainAttrs_list PySem.F.slot_list_append PySem.F.type_list_append Xcw (pv 2) (Xaa (Xcc (Xaa (Xaz Xea (pv 0) Xal) (Xaa (Xaz Xfb (Xaz Xea (Xaz Xe7 (pv 0) Xal) Xal) Xal) (Xaa (Xaz Xfb (Xaz Xea (Xaz Xe7 (pv 0) Xal) Xal) Xal) (Xaa (Xaz Xfb (Xaz Xea (Xaz Xe7 (pv 0) Xal) Xal) Xal) (Xaa (Xaz Xea (Xaz Xe7 (pv 0) Xal) Xal) Xad)))))) Xad))))))
   (Xaj (Xax (Xdl Xhg (by rfl) B.tuple PyProof.Rows.boot_tuple (Xaa (pv 2) Xad)))))))),
  (Xao (Xa2 (Xbf (Xb8 (Xee (Xde (Xbf Xbk) (Xde (Xbf Xbk) (Xde (Xbf Xbk) (Xde (Xbf Xbk) Xcz))))))))
   (Xao (Xcg (Xbd (Xas Xhu (Xaq (Xas Xey Xae (Xaq Xai))) (Xaq Xai))) (Xa1 (Xau (Xab (Xbs Xdh Xah (Xas Xey Xae (Xaq Xai))) Xak))) Xba)
   (Xao (Xa2 (Xee Xcz))
   (Xao (Xgp (Xg4 (Xaf (Xaq (Xas Xc1 (Xaq (Xas Xey Xae (Xaq Xai))) (Xaq Xai))) Xam)) Xa5 (Xao (Xa2 (Xbf (Xas Xey Xae (Xaq Xai))))
   (Xxh (Xbf (Xdj (Xab (Xas Xey Xae (Xaq Xai)) (Xab (Xas Xc1 (Xaq (Xas Xey (Xaq (Xas Xey Xae (Xaq Xai))) (Xaq Xai))) (Xaq Xai)) (Xab (Xas Xc1 (Xaq (Xas Xey (Xaq (Xas Xey Xae (Xaq Xai))) (Xaq Xai))) (Xaq Xai)) (Xab (Xas Xc1 (Xaq (Xas Xey (Xaq (Xas Xey Xae (Xaq Xai))) (Xaq Xai))) (Xaq Xai)) (Xab (Xas Xey (Xaq (Xas Xey Xae (Xaq Xai))) (Xaq Xai)) Xak))))))))))
   (Xxf 2 (Xa1 (Xxk Xu0 (Xab Xah Xak)))))))),?_⟩)
 rintro ds Pr ⟨c,rfl,k⟩
 gn_on
 gp_on
 gn_on
 split
 .obtain ⟨fs,f1,f2,x,f3,f4⟩:=Ynn (c%6) (by omega) (by omega)
  exact⟨_,f3,x,_,rfl,f4,k fs (by omega) f2⟩
 gp_on
 gn_on
 gp_on
 gn_on
 have hr:0<=c%6-3/\c%6-3<=6:=by omega
 generalize c%6-3=rr at hr
 generalize [D.str (Str.ofString "still"),D.str (Str.ofString "pair"),D.str (Str.ofString "line"),D.str (Str.ofString "long")]=named
 refine⟨⟨by omega,by omega⟩,λi δ=>∃(c:Int) (fs:List Lf) (o:Option Sl),δ=[vI c,vD (.lst named),some (.own (.nl (fs.map λf=>.fz (lfD f)))),o]/\(∀f∈fs,f.Ok)/\fs.length=i,⟨c,[],none,rfl,(λf hf=>by cases hf),rfl⟩,?_,?_⟩
 .rintro i d δ hd ⟨c,fs,o,rfl,ok,hfl⟩
  obtain⟨hi,rfl⟩:=Xg8 hd
  simp only[gN,set_cons_succ,set_cons_zero]
  gn_on
  generalize c / 6=c
  gp_on
  fin2
  refine⟨by omega,c,fs++[⟨c%2,c / 2%17-8,c / 34%17-8,c / 578%129-64,c / 74562%9⟩],some (Sl.own (OV.fz (D.int (0+(i:Int)*1)))),?_,λf hf=>?_,by simp[hfl]⟩
  .rw [map_append]
   rfl
  .rcases mem_append.mp hf with z |z
   .exact ok f z
   .rw [mem_singleton.mp z]
    exact⟨by show c%2=0∨c%2=1;omega,⟨by show -8<=c / 2%17-8;omega,by show c / 2%17-8<=8;omega⟩,⟨by show -8<=c / 34%17-8;omega,by show c / 34%17-8<=8;omega⟩,⟨by show -64<=c / 578%129-64;omega,by show c / 578%129-64<=64;omega⟩,⟨by show 0<=c / 74562%9;omega,by show c / 74562%9<=8;omega⟩⟩
 .rintro δ ⟨c,fs,o,rfl,ok,hfl⟩
  rw[Xfu]at hfl
  gp_on
  fin2
  rw[map_map]
  exact k fs (by omega) ok
abbrev Xdr:Stmt:=top 93
theorem Xd1:FnScope ["text","words","head","bits","walk","behind"] ["text"] (Xac Xdr):=by walk_at "S"
theorem Xri {f:Addr}{fd:FuncData}(Df:DefAt K mg "read_text" Xdr f fd)(B:BltV mg)(KV:KitV K){C_NoText:Addr}(h_NoText:nsIn K mainGlobals "NoText"=some (some (.ref C_NoText)))(O_NoText:PyProof.Rows.OwnCls "NoText" C_NoText [.type "ValueError",.type "Exception",.type "BaseException",.type "object"] "ValueError.__new__" mg base)(CV_Walk:ClsV K "Walk" ns_Walk)(Xtd:∃t,mg "WORDS"=some (.int 7 t))(Xoy:∃t,mg "NAME"=some (.str "liftwave" t))(Xfy:∃t,mg "LETTERS_texts"=some (.int 6 t))(Xjs:Cal P w K mg base "read_head" 5 ["words"] (spV K 1 Xlb))(Xk2:Cal P w K mg base "unpacked" 2 ["letters"] (spV K 1 Xmb))(Xnh:Cal P w K mg base "walk_of" 7 ["head","bits"] (spV K 2 Xof))(Xbl:CalM P w K mg base "Walk" "is_whole" 1 ["self"] (spV K 1 Xdo)):
  CalX P w K mg base "read_text" 8 ["text"] (spX K 1 Xh0):=by
 refine CalXV.of Df Xd1 (by walk_at "b") rfl (λcdv A outer s H E hr F Xc hE=>⟨_,_,(Xag (Xa6 (i:=1) Xd1.nd rfl (Or.inl rfl) (Xec plainAttrs_str slot_str_split type_str_split Xpp (pv 0) (Xaa Xb0 Xad)))
   (Xag (Xcb (Xkt (Xbe Xrg (Xap Xaw (by rfl) B.len boot_len (Xaa (pv 1) Xad)) (Xat (by rfl) Xtd) (Xbg _)) (Xhr (Xbe Xrg (Xbc Xbt (pv 1) Xal (λ_ _=>rfl)) (Xgb (by rfl) Xoy) (Xbg _)))).pt (Xaj (Xud (by rfl) O_NoText PySem.F.excBase_ValueError hr.hd Xb0)) Xbb)
   (Xag (Xa6 (i:=2) Xd1.nd rfl (Or.inl rfl) (Xa0 Xjs (hr.mono (by decide)) (by rfl) (Xaa (pv 1) Xad)))
   (Xag (Xa6 (i:=3) Xd1.nd rfl (Or.inl rfl) (Xa0 Xk2 (hr.mono (by decide)) (by rfl) (Xaa (Xbc Xbt (pv 1) (Xat (by rfl) Xfy) (λ_ _=>rfl)) Xad)))
   (Xag (Xa6 (i:=4) Xd1.nd rfl (Or.inl rfl) (Xa0 Xnh (hr.mono (by decide)) (by rfl) (Xaa (pv 2) (Xaa (pv 3) Xad))))
   (Xag (Xa6 (i:=5) Xd1.nd rfl (Or.inl rfl) (Xd9 Xme (pv 3) (Xd7 (Xd3 (pv 4) rfl)) Xh9))
   (Xag (Xcb (Xkt (Xbe Ybe (Xap Xbj (by rfl) B.len boot_len (Xaa (pv 5) Xad)) Xal (Xbg _)) (Xhr (Xbe Xyd Xb0 (pv 5) (by rfl)))).pt (Xaj (Xud (by rfl) O_NoText PySem.F.excBase_ValueError hr.hd Xb0)) Xbb)
   (Xaj (Xax (Xcc (Xaa (pv 2) (Xaa (Xd9 Xme (pv 3) Xh9 (Xd7 (Xd3 (pv 4) rfl))) (Xaa (Xis Xbl (hr.mono (by decide)) (pv 4)) Xad))))))))))))),
  (Xmq (Xeg.x (Xa2 (Xbf (Xb8 (Xo9 Xae (Xaq Xbk))))))
   (Xmq (Yh7 (Xkq (Xbd (Xas Xru (Xaq (Xbh Xdb (Xaf Xae Xam))) (Xaq Xai))) (Xbd (Xas Xru (Xca (OpF.b Xdh) Xae (Xaq Xai)) (Xaq Xbk)))) (Xt5 h_NoText hE (Xaq Xbk)) (Xeg.x Xba))
   (Xmq (Xeg.x (Xa2 (Xbf (Xb8 (Xau (Xab Xah Xak))))))
   (Xmq (Xeg.x (Xa2 (Xbf (Xb8 (Xau (Xab (Xbs Xdh Xah Xai) Xak))))))
   (Xmq (Xeg.x (Xa2 (Xau (Xab Xah (Xab Xah Xak)))))
   (Xmq (Xeg.x (Xa2 (Xbf (Xmt Xah (Xj6 (Xhq (j:=1) CV_Walk (by rfl) Xae)) Xq1))))
   (Xmq (Yh7 (Xkq (Xbd (Xas Xhu (Xaq (Xbh Xeu (Xaf Xae Xam))) (Xaq Xai))) (Xbd (Xas Yi4 (Xaq Xbk) Xae))) (Xt5 h_NoText hE (Xaq Xbk)) (Xeg.x Xba))
   (Xeg.x (Xa1 (Xbf (Xdj (Xab Xah (Xab (Xmt Xah Xq1 (Xj6 (Xhq (j:=1) CV_Walk (by rfl) Xae))) (Xab (Xb8 (Xlz CV_Walk (by decide +kernel) Xae Xam)) Xak)))))))))))))),?_⟩)
 rintro ds Pr ⟨s,rfl,hs,k⟩
 gn_on
 refine⟨by decide +kernel,hs,?_⟩
 rcases k with⟨h,w,L,n,fs,bs,u,v,rfl,hd,hl,⟨F,hu,u1,u2,hz⟩,k⟩ | ⟨h7,k⟩
 rotate_left
 .gp_on
  gn_on
  rw[if_pos (by rw[decide_eq_false (by omega)];rfl)]
  exact k
 unfold Xd5
 rw[Yai,show List.map OV.val (List.map (λs=>OV.fz (D.str s)) (wrT h w L n fs bs))=(wrT h w L n fs bs).map D.str from rfl]
 gp_on
 gn_on
 rw[if_neg (by rw[show (wrT h w L n fs bs).length=7 from rfl];decide)]
 refine⟨_,rfl,?_⟩
 dsimp only
 rw[if_neg (by simp)]
 gp_on
 gn_on
 refine⟨h,w,L,n,fs,bs,rfl,hd,?_⟩
 gp_on
 gn_on
 refine⟨_,rfl,(pk bs).map (97+·),rfl,?_,?_,?_⟩
 .rw [length_map]
  have:=Xx0 bs hl
  omega
 .intro c hc
  obtain⟨n,hn,rfl⟩:=mem_map.mp hc
  have:=Yip bs n hn
  omega
 rw[show ((pk bs).map (97+·)).flatMap (λc=>fr (c-97))=fl bs by
  rw[List.flatMap_map,<- Yjx]
  congr 1
  funext n
  rw[show 97+n-97=n by omega],<- Xjz]
 gp_on
 gn_on
 refine⟨h,w,L,n,fs,fl bs,v,rfl,by have:=hd.1;omega,by have:=hd.2.2.2.1;omega,F,?_⟩
 gp_on
 gn_on
 obtain⟨k4,hk,hk2⟩:=Ydm bs
 have hfl:(Xcf (fl bs)).length<=1000000:=by rw[Xfm,hk];omega
 refine⟨.int v.us,rfl,?_⟩
 rw[hu]
 refine⟨hfl,?_⟩
 have eb:Txt.slice (Xcf (fl bs)) (some (u:Int)) none=Xcf (List.replicate ((fl bs).length-u) false):=by
  rw[Xjz,Xtt _ (by rw[Xc3,length_map];exact u1),Xjz]
  show tx (((fl bs).map bch).drop _)=_
  rw[<- map_drop,List.eq_replicate_of_mem hz,length_drop]
 have et:Txt.slice (Xcf (fl bs)) none (some (u:Int))=Xcf ((fl bs).take u):=Xty _ u1
 have hq:(fl bs).length-u<4:=by omega
 rw[eb]
 generalize (fl bs).length-u=q at hq
 gp_on
 gn_on
 have el:(Xcf (List.replicate q false)).length=q:=by rw[Xfm,length_replicate]
 have eo:(!(Builtin.Str.occurrences (Xcf (List.replicate q false)) (Str.ofString "1") 0 (Xcf (List.replicate q false)).length 1).isEmpty)=false:=by
  rcases (show q=0∨q=1∨q=2∨q=3 by omega) with rfl |rfl |rfl |rfl<;>decide +kernel
 rw[eo,el,if_neg (show ¬ ((q:Nat):Int) > 3 by omega),if_neg (by decide)]
 refine⟨by omega,?_⟩
 gp_on
 fin2
 refine⟨.int v.us,rfl,?_⟩
 rw[hu]
 dsimp only
 rw[et]
 exact⟨hfl,v,by rw[OV.vals_eq],by rfl,k⟩
abbrev Xej:Stmt:=top 99
theorem Xmi:FnScope ["_law_text","_law_head","_law_bits","_law_whole","_law_found"] ["_law_text","_law_head","_law_bits","_law_whole"] (Xac Xej):=by walk_at "S"
theorem Xs2 {f:Addr}{fd:FuncData}(Df:DefAt K mg "_law_read" Xej f fd)(B:BltV mg)(KV:KitV K)(CV_Walk:ClsV K "Walk" ns_Walk)(Xem:CalX P w K mg base "read_text" 8 ["text"] (spX K 1 Xh0)):
  Cal P w K mg base "_law_read" 9 ["_law_text","_law_head","_law_bits","_law_whole"] (spV K 4 Xjj):=by
 refine CalV.of Df Xmi (by walk_at "b") rfl (λc A o s H E hr=>⟨_,_,(Xag (Xa6 (i:=4) Xmi.nd rfl (Or.inl rfl) (Xa0 Xem.cal (hr.mono (by decide)) (by rfl) (Xaa (pv 0) Xad)))
   (Xag (Xcb (Xkt (Xdk (Xch (Xap Xcx (by rfl) B.isinstance boot_isinstance (Xaa (pv 4) (Xaa (Xel (v:=.ty "tuple") (by rfl) B.tuple PyProof.Rows.boot_tuple (by rfl)) Xad))))) (Xhr (Xbe Xrg (Xap Xaw (by rfl) B.len boot_len (Xaa (pv 4) Xad)) Xal (Xbg _)))).pt (Xaj (Xax Xmy)) Xbb)
   (Xag (Xcb (Xkt (Xdk (Xch (Xap Xcx (by rfl) B.isinstance boot_isinstance (Xaa (Xbc Xa9 (pv 4) Xal (λ_ _=>rfl)) (Xaa (Xel (v:=.ty "tuple") (by rfl) B.tuple PyProof.Rows.boot_tuple (by rfl)) Xad))))) (Xkt (Xdk (Xch (Xap Xcx (by rfl) B.isinstance boot_isinstance (Xaa (Xbc Xa9 (pv 4) Xal (λ_ _=>rfl)) (Xaa (Xel (v:=.ty "str") (by rfl) B.str PyProof.Rows.boot_str (by rfl)) Xad))))) (Xhr (Xdk (Xch (Xap Xcx (by rfl) B.isinstance boot_isinstance (Xaa (Xbc Xa9 (pv 4) Xal (λ_ _=>rfl)) (Xaa (Xel (v:=.ty "bool") (by rfl) B.bool PyProof.Rows.boot_bool (by rfl)) Xad)))))))).pt (Xaj (Xax Xmy)) Xbb)
   (Xaj (Xax (Xkb (Xfv (Yc6 hr.units) (Xbc Xa9 (pv 4) Xal (λ_ _=>rfl)) (pv 1) (Xbg _)) (Xkb (Xfv Xi1 (Xbc Xa9 (pv 4) Xal (λ_ _=>rfl)) (pv 2) (Xbg _)) (Xmx (Xfv Xi1 (Xbc Xa9 (pv 4) Xal (λ_ _=>rfl)) (pv 3) (Xbg _)))))))))),
  (Xao (Xa2 (Xbf (Xb8 (Xau (Xab Xah Xak)))))
   (Xao (Xcg (Xkq (Xdi (Xkm (Xbh (Xhs KV) (Xaf Xae (Xaf (Xaq Xks) Xam))))) (Xbd (Xas Xru (Xaq (Xbh Xdb (Xaf Xae Xam))) (Xaq Xai)))) (Xa1 (Xbf Xmu)) Xba)
   (Xao (Xcg (Xkq (Xdi (Xkm (Xbh (Xhs KV) (Xaf (Xca (OpF.b Xa8) Xae (Xaq Xai)) (Xaf (Xaq Xks) Xam))))) (Xkq (Xdi (Xkm (Xbh (Xhs KV) (Xaf (Xca (OpF.b Xa8) Xae (Xaq Xai)) (Xaf (Xaq Xks) Xam))))) (Xdi (Xkm (Xbh (Xhs KV) (Xaf (Xca (OpF.b Xa8) Xae (Xaq Xai)) (Xaf (Xaq Xks) Xam))))))) (Xa1 (Xbf Xmu)) Xba)
   (Xa1 (Xbf (Xg7 (Xas Yc9 (Xca (OpF.b Xa8) Xae (Xaq Xai)) Xae) (Xg7 (Xas Xi2 (Xca (OpF.b Xa8) Xae (Xaq Xai)) Xae) (Xas Xi2 (Xca (OpF.b Xa8) Xae (Xaq Xai)) Xae)))))))),?_⟩)
 rintro ds Pr ⟨h,w,L,n,fs,bs,u,v,rfl,hd,hl,R,k⟩
 gn_on
 refine⟨_,rfl,Xlw hd hl,.inl ⟨h,w,L,n,fs,bs,u,v,rfl,hd,hl,R,?_⟩⟩
 gp_on
 fin2
 have hf:D.fit 4 (hdD h w L n fs)=true:=by
  unfold hdD Xll
  simp only[D.fit,all_cons,List.all_nil,Bool.and_true,Bool.true_and,all_eq_true]
  intro d hd
  obtain⟨x,_,rfl⟩:=mem_map.mp hd
  rfl
 rw[if_neg (by simp),D.eqb_refl hf,if_pos rfl]
 exact⟨hf,hf,k⟩
abbrev Xcp:Stmt:=top 100
theorem Xev:FnScope ["_law_text","_law_right","e"] ["_law_text"] (Xac Xcp):=by walk_at "S"
theorem Xn0 {f:Addr}{fd:FuncData}(Df:DefAt K mg "_law_refused" Xcp f fd)(B:BltV mg)(KV:KitV K){W_WaveError:Addr}(m_WaveError:mg "WaveError"=some (.ref W_WaveError))(x_NoText:∀c∈(["NoText"]:List Str),∀C,nsIn K mainGlobals c=some (some (.ref C))->exmOne K (.ref C) (.ref W_WaveError)=some true)(EV_NoText:ExcV K "NoText" [("NoText",true),("NoHead",false)] [("ValueError",true)])(zB_ValueError:mg "ValueError"=none)(CV_Walk:ClsV K "Walk" ns_Walk)(Xl1:Xu5 K mg "NoText")(Xl2:Xu5 K mg "NoHead")(Xem:CalX P w K mg base "read_text" 8 ["text"] (spX K 1 Xh0)):
  Cal P w K mg base "_law_refused" 9 ["_law_text"] (spV K 1 Xi6):=by
 refine CalV.of Df Xev (by walk_at "b") rfl (λc A o s H E hr=>⟨_,_,(Xag (Xa6 (i:=1) Xev.nd rfl (Or.inl rfl) Xmy)
   (Xag (Yfd (ni:=2) rfl rfl (λ_ _ z=>z) Xem (hr.mono (by decide)) (by rfl) (Xaa (pv 0) Xad) (by rfl) m_WaveError Xev.nd rfl rfl rfl (λ_=>(Xaj (Xa6 (i:=1) Xev.nd rfl (Or.inl rfl) (Xkb (Xap Xp3 (by rfl) B.isinstance boot_isinstance (Xaa (pv 2) (Xaa (Ya9 (by rfl) Xl1) Xad))) (Xkb (Xap Xp3 (by rfl) B.isinstance boot_isinstance (Xaa (pv 2) (Xaa (Xel (v:=.ty "ValueError") (by rfl) zB_ValueError Xnm (by rfl)) Xad))) (Xmx (Yc4 (Xap Xp3 (by rfl) B.isinstance boot_isinstance (Xaa (pv 2) (Xaa (Ya9 (by rfl) Xl2) Xad)))))))))))
   (Xaj (Xax (pv 1))))),
  (Xao (Xa2 (Xbf Xmu))
   (Xao (Yel (cs:=["NoText"]) x_NoText (Xab Xah Xak) (Xa2 (Xbf (Xg7 (Xbh (Xz8 EV_NoText) (Xaf Xae (Xaf (Xaq (Yaw Xl1)) Xam))) (Xg7 (Xbh (Xz8 EV_NoText) (Xaf Xae (Xaf (Xaq Xks) Xam))) (Xxn (Xbh (Xz8 EV_NoText) (Xaf Xae (Xaf (Xaq (Yaw Xl2)) Xam)))))))))
   (Xa1 (Xbf Xah)))),?_⟩)
 rintro ds Pr ⟨s,rfl,hs,h7,k⟩
 fin2
 refine⟨s,rfl,hs,.inr ⟨h7,?_⟩⟩
 refine⟨by simp,rfl,true,by simp,rfl,true,by simp,rfl,false,by simp,k⟩
abbrev Xfr:Stmt:=top 101
theorem Xoo:FnScope ["_law_text","_law_line_here","_law_head","_law_bits","_law_cut_here","_law_many"] ["_law_text","_law_line_here","_law_head","_law_bits","_law_cut_here"] (Xac Xfr):=by walk_at "S"
theorem Xvq {f:Addr}{fd:FuncData}(Df:DefAt K mg "_law_cut" Xfr f fd)(B:BltV mg)(KV:KitV K)(CV_Walk:ClsV K "Walk" ns_Walk)(Xhk:Cal P w K mg base "_law_refused" 9 ["_law_text"] (spV K 1 Xi6))(Xfl:Cal P w K mg base "_law_read" 9 ["_law_text","_law_head","_law_bits","_law_whole"] (spV K 4 Xjj)):
  Cal P w K mg base "_law_cut" 10 ["_law_text","_law_line_here","_law_head","_law_bits","_law_cut_here"] (spV K 5 Xkn):=by
 refine CalV.of Df Xoo (by walk_at "b") rfl (λc A o s H E hr=>⟨_,_,(Xag (Xcb (Xbe Xrh (pv 4) (Xap Xbj (by rfl) B.len boot_len (Xaa (pv 1) Xad)) (Xbg _)) (Xaj (Xax (Xa0 Xhk (hr.mono (by decide)) (by rfl) (Xaa (Xd9 Xme (pv 0) Xh9 (Xd7 (pv 4))) Xad)))) Xbb)
   (Xag (Xa6 (i:=5) Xoo.nd rfl (Or.inl rfl) (Xaz Xjf Xal (Xaz Xfb (pv 4) (Xap Xbj (by rfl) B.len boot_len (Xaa (pv 1) Xad)))))
   (Xaj (Xax (Xa0 Xfl (hr.mono (by decide)) (by rfl) (Xaa (Xd9 Xme (pv 0) Xh9 (Xd7 (pv 4))) (Xaa (pv 2) (Xaa (Xd9 Xme (pv 3) Xh9 (Xd7 (pv 5))) (Xaa (Xfv Ybf (pv 5) (Xap Xbj (by rfl) B.len boot_len (Xaa (pv 3) Xad)) (Xbg _)) Xad))))))))),
  (Xao (Xcg (Xbd (Xas Xhu Xae (Xaq (Xbh Xeu (Xaf Xae Xam))))) (Xa1 (Xau (Xab (Xmt Xah Xq1 (Xj6 Xae)) Xak))) Xba)
   (Xao (Xa2 (Xbf (Xas Xey (Xaq Xai) (Xaq (Xas Xc1 Xae (Xaq (Xbh Xeu (Xaf Xae Xam))))))))
   (Xa1 (Xau (Xab (Xmt Xah Xq1 (Xj6 Xae)) (Xab Xah (Xab (Xmt Xah Xq1 (Xj6 Xae)) (Xab (Xas Xhu Xae (Xaq (Xbh Xeu (Xaf Xae Xam)))) Xak)))))))),?_⟩)
 rintro ds Pr ⟨h,w,L,n,fs,bs,v,c,rfl,hd,hl,F,hv,hu,hc,k⟩
 gn_on
 have htl:=Xlw hd hl
 have hln:=Xqb hd hl
 refine⟨by omega,?_⟩
 by_cases z:(c:Int)<((Xed h w L n fs).length:Int)
 .rw [if_pos z]
  exact⟨htl,_,rfl,le_trans (Txt.slice_le _ _ _) htl,Xzy hc (by omega),k⟩
 .rw [if_neg z]
  obtain⟨j,rfl⟩:∃j,c=(Xed h w L n fs).length+j:=⟨c-(Xed h w L n fs).length,by omega⟩
  have hj:j<=(pk bs).length:=by
   rw[Xiq,Xj5,show (lT (pk bs)).length=(pk bs).length by rw[Xc3,length_map]]at hc
   omega
  rw[Xuf]at hj
  gp_on
  gn_on
  rw[show 4*((((Xed h w L n fs).length+j:Nat):Int)-((Xed h w L n fs).length:Int))=((4*j:Nat):Int) by omega]
  refine⟨by omega,?_⟩
  gp_on
  fin2
  rw[Yb3 hc,Xw1,Xfm]
  refine⟨htl,by omega,by omega,?_⟩
  have h0:=hd.1.1
  have w0:=hd.2.1.1
  by_cases y:bs.length<=4*j
  .rw [take_of_length_le y]
   have e1:(fl bs).take bs.length=bs:=by unfold fl;rw[List.take_left]
   refine⟨h,w,L,n,fs,bs,bs.length,v,?_,hd,hl,⟨Xzj (cs:=List.replicate ((4-bs.length%4)%4) false) F hv,hu,?_,?_,?_⟩,k⟩
   .rw [e1,decide_eq_true hv,decide_eq_true (show ((4*j:Nat):Int)>=(bs.length:Int) by omega)]
   .unfold fl
    rw[length_append]
    omega
   .unfold fl
    rw[length_append,length_replicate]
    omega
   .intro b hb
    unfold fl at hb
    rw[List.drop_left]at hb
    exact (mem_replicate.mp hb).2
  .have hhw:h*w<=4096:=mul_le_mul hd.1.2 hd.2.1.2
   have hn4:=hd.2.2.2.1
   have hhw0:0<h*w:=mul_pos h0 w0
   obtain⟨q1,q2,q3,q4⟩:=Xma (h*w) n
   have hS0:=Xl9 (m:=((h*w:Nat):Int)) (by omega) n
   unfold wk0 at F
   obtain⟨u',a1,a2,a3,a4,a5,a6,a7,a8⟩:=Ygw (m:=h*w) (c:=4*j) hhw0 (by omega) F hS0 (by omega) (by rw[q2,length_nil];omega) q3 (by omega)
   have hlB:(bs.take (4*j)).length=4*j:=by rw[length_take];omega
   have ef:fl (bs.take (4*j))=bs.take (4*j):=Yb2 (by rw[hlB];omega)
   have eP:decide (u'.pl<0)=false:=by
    rw[a6,decide_eq_false (show ¬ v.us<=((4*j:Nat):Int) by omega),Bool.and_false]
   refine⟨h,w,L,n,fs,bs.take (4*j),4*j,u',?_,hd,by omega,⟨by rw[ef];exact a1,by omega,by rw[ef,hlB];exact Nat.le_refl _,by rw[ef,hlB];omega,?_⟩,k⟩
   .rw [ef,take_of_length_le (le_of_eq hlB),eP,decide_eq_false (show ¬ ((4*j:Nat):Int)>=(bs.length:Int) by omega)]
   .intro b hb
    rw[ef,List.drop_of_length_le (le_of_eq hlB)]at hb
    cases hb
abbrev Xnv:Stmt:=top 102
theorem Xfp:FnScope ["_law_script","_law_cell","_law_high","_law_wide","_law_most","_law_ladder_here","_law_head","_law_bits","_law_text","_law_line_here","_law_cut_here"] ["_law_script"] (Xac Xnv):=by walk_at "S"
theorem Yi2 {f:Addr}{fd:FuncData}(Df:DefAt K mg "law" Xnv f fd)(B:BltV mg)(KV:KitV K)(CV_Walk:ClsV K "Walk" ns_Walk)(Xcu:Cal P w K mg base "_law_cell_at" 1 ["_law_script","_law_k"] (spV K 2 Xi8))(Xim:Cal P w K mg base "_law_ladder" 2 ["_law_cell"] (spV K 1 Xj1))(Xtn:CalD P w K mg base "coded" 6 ["picture","ladder","levels"] (spV K 3 Xt0) [.non,.int 2])(Xhl:Cal P w K mg base "_law_picture" 1 ["_law_script","_law_high","_law_wide","_law_most"] (spV K 4 Xi7))(Xng:Cal P w K mg base "written" 3 ["head","bits"] (spV K 2 Xoe))(Xk4:Cal P w K mg base "_law_line" 1 ["_law_head"] (spV K 1 Xmc))(Xin:Cal P w K mg base "_law_cut" 10 ["_law_text","_law_line_here","_law_head","_law_bits","_law_cut_here"] (spV K 5 Xkn))(Xfl:Cal P w K mg base "_law_read" 9 ["_law_text","_law_head","_law_bits","_law_whole"] (spV K 4 Xjj)):
  FnOk P w K mg base CX0 11 f fd ["_law_script"] (Xqm K):=by
 refine Ygb Df Xfp (λc A o s H E hr=>⟨_,_,(Xag (Xa6 (i:=1) Xfp.nd rfl (Or.inl rfl) (Xa0 Xcu (hr.mono (by decide)) (by rfl) (Xaa (pv 0) (Xaa Xal Xad))))
   (Xag (Xa6 (i:=2) Xfp.nd rfl (Or.inl rfl) (Xaz Xef Xal (Xaz Xea (pv 1) Xal)))
   (Xag (Xa6 (i:=3) Xfp.nd rfl (Or.inl rfl) (Xaz Xef Xal (Xaz Xea (Xaz Xe7 (pv 1) Xal) Xal)))
   (Xag (Xa6 (i:=4) Xfp.nd rfl (Or.inl rfl) Xal)
   (Xag (Xcb (Xbe Xi1 (Xaz Xea (Xaz Xe7 (pv 1) Xal) Xal) Xal (Xbg _)) (Xag (Xa6 (i:=2) Xfp.nd rfl (Or.inl rfl) Xal)
   (Xag (Xa6 (i:=3) Xfp.nd rfl (Or.inl rfl) (Xaz Xef Xal (Xaz Xea (Xaz Xe7 (pv 1) Xal) Xal)))
   (Xaj (Xa6 (i:=4) Xfp.nd rfl (Or.inl rfl) (Xaz Yiy Xal Xal))))) Xbb)
   (Xag (Xa6 (i:=5) Xfp.nd rfl (Or.inl rfl) (Xa0 Xim (hr.mono (by decide)) (by rfl) (Xaa (Xa0 Xcu (hr.mono (by decide)) (by rfl) (Xaa (pv 0) (Xaa Xal Xad))) Xad)))
   (Xag (Xue (Xa0 Xtn.cal (hr.mono (by decide)) (by rfl) (Xaa (Xa0 Xhl (hr.mono (by decide)) (by rfl) (Xaa (pv 0) (Xaa (pv 2) (Xaa (pv 3) (Xaa (pv 4) Xad))))) (Xaa (pv 5) (Xaa (Xaz Xea (Xaz Xe7 (pv 1) Xal) Xal) Xad)))) (Xuh (n:=2) rfl (Xfe (Xa4 (i:=6) Xfp.nd rfl (Or.inl rfl)) (Xfe (Xa4 (i:=7) Xfp.nd rfl (Or.inl rfl)) Xpg))))
   (Xag (Xa6 (i:=8) Xfp.nd rfl (Or.inl rfl) (Xa0 Xng (hr.mono (by decide)) (by rfl) (Xaa (pv 6) (Xaa (pv 7) Xad))))
   (Xag (Xa6 (i:=9) Xfp.nd rfl (Or.inl rfl) (Xa0 Xk4 (hr.mono (by decide)) (by rfl) (Xaa (pv 6) Xad)))
   (Xag (Xa6 (i:=10) Xfp.nd rfl (Or.inl rfl) (Xaz Xea (Xaz Xe7 (Xa0 Xcu (hr.mono (by decide)) (by rfl) (Xaa (pv 0) (Xaa Xal Xad))) Xal) (Xaz Xef (Xap Xbj (by rfl) B.len boot_len (Xaa (pv 8) Xad)) Xal)))
   (Xag (Xcb (Xbe Xi1 (Xaz Xea (Xa0 Xcu (hr.mono (by decide)) (by rfl) (Xaa (pv 0) (Xaa Xal Xad))) Xal) Xal (Xbg _)) (Xaj (Xa6 (i:=10) Xfp.nd rfl (Or.inl rfl) (Xaz Xef (Xap Xbj (by rfl) B.len boot_len (Xaa (pv 9) Xad)) (Xaz Xea (Xaz Xe7 (Xa0 Xcu (hr.mono (by decide)) (by rfl) (Xaa (pv 0) (Xaa Xal Xad))) Xal) (Xaz Xfb (Xaz Xef (Xap Xbj (by rfl) B.len boot_len (Xaa (pv 8) Xad)) Xal) (Xap Xbj (by rfl) B.len boot_len (Xaa (pv 9) Xad))))))) Xbb)
   (Xag (Xcb (Xkt (Xdk (Xch (Xa0 Xin (hr.mono (by decide)) (by rfl) (Xaa (pv 8) (Xaa (pv 9) (Xaa (pv 6) (Xaa (pv 7) (Xaa (pv 10) Xad)))))))) (Xhr (Xdk (Xch (Xa0 Xin (hr.mono (by decide)) (by rfl) (Xaa (pv 8) (Xaa (pv 9) (Xaa (pv 6) (Xaa (pv 7) (Xaa (Xaz Xfb (Xap Xbj (by rfl) B.len boot_len (Xaa (pv 9) Xad)) Xal) Xad)))))))))).pt (Xaj (Xax Xmy)) Xbb)
   (Xaj (Xax (Xkb (Xa0 Xin (hr.mono (by decide)) (by rfl) (Xaa (pv 8) (Xaa (pv 9) (Xaa (pv 6) (Xaa (pv 7) (Xaa (Xap Xbj (by rfl) B.len boot_len (Xaa (pv 9) Xad)) Xad)))))) (Xmx (Xa0 Xfl (hr.mono (by decide)) (by rfl) (Xaa (pv 8) (Xaa (pv 6) (Xaa (pv 7) (Xaa Xmy Xad))))))))))))))))))))),
  (Xao (Xa2 (Xbf (Xb8 (Xau (Xab Xah (Xab Xai Xak))))))
   (Xao (Xa2 (Xbf (Xas Xc1 (Xaq Xai) (Xaq (Xas Xey Xae (Xaq Xai))))))
   (Xao (Xa2 (Xbf (Xas Xc1 (Xaq Xai) (Xaq (Xas Xey (Xaq (Xas Xey Xae (Xaq Xai))) (Xaq Xai))))))
   (Xao (Xa2 (Xbf Xai))
   (Xao (Xcg (Xbd (Xas Xi2 (Xaq (Xas Xey (Xaq (Xas Xey Xae (Xaq Xai))) (Xaq Xai))) (Xaq Xai))) (Xao (Xa2 (Xbf Xai))
   (Xao (Xa2 (Xbf (Xas Xc1 (Xaq Xai) (Xaq (Xas Xey (Xaq (Xas Xey Xae (Xaq Xai))) (Xaq Xai))))))
   (Xa2 (Xbf (Xas Xey (Xaq Xai) (Xaq Xai)))))) Xba)
   (Xao (Xa2 (Xbf (Xb8 (Xau (Xab (Xb8 (Xau (Xab Xah (Xab Xai Xak)))) Xak)))))
   (Xao (Yh4 (Xb8 (Xau (Xab (Xb8 (Xau (Xab Xah (Xab Xah (Xab Xah (Xab Xah Xak)))))) (Xab Xah (Xab (Xas Xey (Xaq (Xas Xey Xae (Xaq Xai))) (Xaq Xai)) Xak))))) (Xt6 (Xfd Xa5 (Xfd Xa5 Xpb))))
   (Xao (Xa2 (Xbf (Xb8 (Xau (Xab Xah (Xab Xah Xak))))))
   (Xao (Xa2 (Xbf (Xb8 (Xau (Xab Xah Xak)))))
   (Xao (Xa2 (Xbf (Xas Xey (Xaq (Xas Xey (Xaq (Xb8 (Xau (Xab Xah (Xab Xai Xak))))) (Xaq Xai))) (Xaq (Xas Xc1 (Xaq (Xbh Xeu (Xaf Xae Xam))) (Xaq Xai))))))
   (Xao (Xcg (Xbd (Xas Xi2 (Xaq (Xas Xey (Xaq (Xb8 (Xau (Xab Xah (Xab Xai Xak))))) (Xaq Xai))) (Xaq Xai))) (Xa2 (Xbf (Xas Xc1 (Xaq (Xbh Xeu (Xaf Xae Xam))) (Xaq (Xas Xey (Xaq (Xas Xey (Xaq (Xb8 (Xau (Xab Xah (Xab Xai Xak))))) (Xaq Xai))) (Xaq (Xas Xc1 (Xaq (Xas Xc1 (Xaq (Xbh Xeu (Xaf Xae Xam))) (Xaq Xai))) (Xaq (Xbh Xeu (Xaf Xae Xam)))))))))) Xba)
   (Xao (Xcg (Xkq (Xdi (Xkm (Xb8 (Xau (Xab Xah (Xab Xah (Xab Xah (Xab Xah (Xab Xah Xak))))))))) (Xdi (Xkm (Xb8 (Xau (Xab Xah (Xab Xah (Xab Xah (Xab Xah (Xab (Xas Xc1 (Xaq (Xbh Xeu (Xaf Xae Xam))) (Xaq Xai)) Xak)))))))))) (Xa1 (Xbf Xmu)) Xba)
   (Xa1 (Xbf (Xg7 (Xb8 (Xau (Xab Xah (Xab Xah (Xab Xah (Xab Xah (Xab (Xbh Xeu (Xaf Xae Xam)) Xak))))))) (Xb8 (Xau (Xab Xah (Xab Xah (Xab Xah (Xab Xmu Xak))))))))))))))))))))),?_⟩)
 intro ns hns hb
 gn_on
 refine⟨ns,0,rfl,by decide,?_⟩
 gp_on
 generalize ns.getD (0:Int).toNat 0=c0
 gn_on
 gp_on
 gn_on
 gp_on
 gn_on
 gp_on
 refine Xt3 λN hN=>?_
 have key0:∀(h w:Nat) (mo:Int),0<h->h<=3->0<w->w<=3->0<=mo->mo<=1000000000000000000000000000000->N [vD (.lst (ns.map .int)),vI c0,vI h,vI w,vI mo,none,none,none,none,none,none]:=by
  intro h w mo h0 hh w0 hw m0 m1
  refine hN _ ?_
  clear hN
  clear N
  gn_on
  refine⟨ns,1,rfl,by decide,_,rfl,λfs hf ok=>?_⟩
  fin2
  gp_on
  gn_on
  refine⟨ns,h,w,mo,rfl,by omega,⟨h0,by omega,w0,by omega⟩,⟨m0,m1⟩,λe he=>?_⟩
  fin2
  have hL0:0<=c0 / 36%4/\c0 / 36%4<4:=by omega
  generalize hlv:c0 / 36%4=lv at hL0
  clear hlv
  obtain⟨L,rfl⟩:∃L:Nat,lv=L:=⟨lv.toNat,by omega⟩
  have hL:L<=6:=by omega
  clear hL0
  rw[Xmf]
  have hp:(1000000000000000000000000000000:Int)<=2^100:=by decide
  have hB:=Yfy ok (h:=h) (w:=w) (b:=100) (by decide) (e:=e) (λi j=>by have:=he i j;omega) L
  have h60:10*fs.length*L<=360:=by
   have:=mul_le_mul (Nat.mul_le_mul_left 10 hf) hL
   omega
  have hh9:h*w<=9:=mul_le_mul hh hw
  have hh0:0<h*w:=mul_pos h0 w0
  have hbits:3*(h*w)*461<=900000:=by omega
  refine⟨h,w,e,fs,L,461,rfl,hf,ok,hL,h0,by omega,w0,by omega,by decide,(λx hx=>le_trans (hB x hx) (by omega)),hbits,λn bs v t1 hxn hn t2 F hv S C hus hbl=>?_⟩
  have hxl:=Ybj (h:=h) (w:=w) (L:=L) (e:=e) (fs:=fs)
  generalize Xkx h w e fs L=xs at F S C hxl hxn
  rw[hxl]at F S
  clear hB he hp hbits h60 t1 t2
  clear e
  fin2
  gp_on
  have hd:Yae h w L n fs:=⟨⟨h0,by omega⟩,⟨w0,by omega⟩,hL,by omega,hf,ok⟩
  gn_on
  refine⟨h,w,L,n,fs,bs,rfl,hd,hbl,?_⟩
  rw[<- Xd5]
  gp_on
  gn_on
  refine⟨h,w,L,n,fs,rfl,hd,?_⟩
  rw[<- Xed]
  gp_on
  gn_on
  refine⟨ns,2,rfl,by decide,?_⟩
  dsimp only[OV.val]
  generalize ns.getD (2:Int).toNat 0=c2
  have htl:=Xlw hd hbl
  have hln:=Xqb hd hbl
  have hT:(Xd5 h w L n fs bs).length=(Xed h w L n fs).length+(pk bs).length:=by
   rw[Xiq,Xj5,show (lT (pk bs)).length=(pk bs).length by rw[Xc3,length_map]]
  have hA:1<=(Xed h w L n fs).length:=by
   unfold Xed
   rw[Xj5,show (tx [32]).length=1 from rfl]
   omega
  have hcut:∀(c:Nat) (P:OV->Prop),c<=(Xd5 h w L n fs bs).length->P (.fz (.bl true))->Xkn [.str (Xd5 h w L n fs bs),.str (Xed h w L n fs),hdD h w L n fs,.str (Xcf bs),.int c] P:=λc P h1 h2=>⟨h,w,L,n,fs,bs,v,c,rfl,hd,hbl,F,hv,hus,h1,h2⟩
  refine⟨⟨by decide,by decide⟩,htl,by omega,?_⟩
  have b0:0<=c2 / 2%(((Xd5 h w L n fs bs).length:Int)+1):=emod_nonneg _ (by omega)
  have b1:c2 / 2%(((Xd5 h w L n fs bs).length:Int)+1)<((Xd5 h w L n fs bs).length:Int)+1:=Int.emod_lt_of_pos _ (by omega)
  generalize c2 / 2%(((Xd5 h w L n fs bs).length:Int)+1)=cc at b0 b1
  obtain⟨cc,rfl⟩:∃k:Nat,cc=k:=⟨cc.toNat,by omega⟩
  gp_on
  refine Xt3 λN hN=>?_
  have key:∀c:Nat,c<=(Xd5 h w L n fs bs).length->N [vD (.lst (ns.map .int)),vI c0,vI h,vI w,vI mo,vD (Xll fs),vD (hdD h w L n fs),vD (.str (Xcf bs)),vD (.str (Xd5 h w L n fs bs)),vD (.str (Xed h w L n fs)),vI c]:=by
   intro c hc
   refine hN _ ?_
   gn_on
   refine hcut c _ hc ?_
   dsimp only[OV.val]
   rw[if_neg (by decide)]
   refine⟨by omega,?_⟩
   rw[show ((Xed h w L n fs).length:Int)-1=(((Xed h w L n fs).length-1:Nat):Int) by omega]
   refine hcut _ _ (by omega) ?_
   dsimp only[OV.val]
   rw[if_neg (by decide)]
   gp_on
   fin2
   refine⟨by omega,hcut _ _ (by omega) ?_⟩
   dsimp only[OV.val]
   rw[if_pos rfl]
   have e1:(fl bs).take bs.length=bs:=by unfold fl;rw[List.take_left]
   refine⟨h,w,L,n,fs,bs,bs.length,v,by rw[e1,decide_eq_true hv],hd,hbl,⟨Xzj (cs:=List.replicate ((4-bs.length%4)%4) false) F hv,hus,?_,?_,?_⟩,rfl⟩
   .unfold fl
    rw[length_append]
    omega
   .unfold fl
    rw[length_append,length_replicate]
    omega
   .intro b hb
    unfold fl at hb
    rw[List.drop_left]at hb
    exact (mem_replicate.mp hb).2
  fin2
  refine⟨ns,2,rfl,by decide,?_⟩
  dsimp only[OV.val]
  refine⟨by decide,?_⟩
  split
  .refine ⟨by omega,ns,2,rfl,by decide,?_⟩
   dsimp only[OV.val]
   generalize ns.getD (2:Int).toNat 0 / 2=c3
   have d0:0<=c3%(((Xd5 h w L n fs bs).length:Int)+1-((Xed h w L n fs).length:Int)):=emod_nonneg _ (by omega)
   have d1:c3%(((Xd5 h w L n fs bs).length:Int)+1-((Xed h w L n fs).length:Int))<((Xd5 h w L n fs bs).length:Int)+1-((Xed h w L n fs).length:Int):=Int.emod_lt_of_pos _ (by omega)
   generalize c3%(((Xd5 h w L n fs bs).length:Int)+1-((Xed h w L n fs).length:Int))=dd at d0 d1
   obtain⟨dd,rfl⟩:∃k:Nat,dd=k:=⟨dd.toNat,by omega⟩
   refine⟨⟨by decide,by decide⟩,htl,by omega,by omega,?_⟩
   rw[<- Int.natCast_add]
   exact key _ (by omega)
  .exact key cc (by omega)
 have go:∀(h w mo:Int),1<=h->h<=3->1<=w->w<=3->0<=mo->mo<=1000000000000000000000000000000->N [vD (.lst (ns.map .int)),vI c0,vI h,vI w,vI mo,none,none,none,none,none,none]:=by
  intro h w mo h1 h2 w1 w2 m1 m2
  obtain⟨h,rfl⟩:∃k:Nat,h=k:=⟨h.toNat,by omega⟩
  obtain⟨w,rfl⟩:∃k:Nat,w=k:=⟨w.toNat,by omega⟩
  exact key0 h w mo (by omega) (by omega) (by omega) (by omega) m1 m2
 fin2
 split
 .exact go _ _ _ (by omega) (by omega) (by omega) (by omega) (by decide) (by decide)
 .exact go _ _ _ (by omega) (by omega) (by omega) (by omega) (by decide) (by decide)
end
theorem Ykq {l:PySem.W.OpenLaw}{w:World}{K:Frag}{h:Heap}{mg:Str->Option Value}{fa:Addr}(X:K.In h)(G:h.Ns mainGlobals mg)(hfa:mg "law"=some (.ref fa))
 {f1 f2 f3 f4 f5 f6 f7 f8 f9 f10 f11 f12 f13 f14 f15 f16 f17 f18 f19 f20 f21 f22 f23 f24 f25 f26 f27 f28 f29 f30 f31 f32 f33 f34 f35 f36 f37 f38 f39 f40 f41 f42 T42 f43 f44 f45 f46 f47 f48 f49 f50 f51 f52 f53 f54 f55 f56 f57 f58:Addr}
 {od1 an1 od2 an2 od3 an3 od4 an4 od5 an5 od6 an6 od7 an7 od8 an8 od9 an9 od10 an10 od11 an11 od12 an12 od13 an13 od14 an14 od15 an15 od16 an16 od17 an17 od18 an18 od19 an19 od20 an20 od21 an21 od22 an22 od23 an23 od24 an24 od25 an25 od26 an26 od27 an27 od28 an28 od29 an29 od30 an30 od31 an31 od32 an32 od33 an33 od34 an34 od35 an35 od36 an36 od37 an37 od38 an38 od39 an39 od40 an40 od41 an41 od42 an42 odT42 od43 an43 od44 an44 od45 an45 od46 an46 od47 an47 od48 an48 od49 an49 od50 an50 od51 an51 od52 an52 od53 an53 od54 an54 od55 an55 od56 an56 od57 an57 od58 an58:Option Addr}
 {sl1 sl2 sl3 sl4 sl5 sl6 sl7 sl8 sl9 sl10 sl11 sl12 sl13 sl14 sl15 sl16 sl17 sl18 sl19 sl20 sl21 sl22 sl23 sl24 sl25 sl26 sl27 sl28 sl29 sl30 sl31 sl32 sl33 sl34 sl35 sl36 sl37 sl38 sl39 sl40 sl41 sl42 slT42 sl43 sl44 sl45 sl46 sl47 sl48 sl49 sl50 sl51 sl52 sl53 sl54 sl55 sl56 sl57 sl58:Array (Option Value)}
 {oc1 kV1 dc1 pm1 cd1 ct1 oc2 kV2 dc2 pm2 cd2 ct2 oc3 kV3 dc3 pm3 cd3 ct3 oc4 kV4 dc4 pm4 cd4 ct4 oc5 kV5 dc5 pm5 cd5 ct5 oc6 kV6 dc6 pm6 cd6 ct6 oc7 kV7 dc7 pm7 cd7 ct7 oc8 kV8 dc8 pm8 cd8 ct8 oc9 kV9 dc9 pm9 cd9 ct9 oc10 kV10 dc10 pm10 cd10 ct10 oc11 kV11 dc11 pm11 cd11 ct11 oc12 kV12 dc12 pm12 cd12 ct12 oc13 kV13 dc13 pm13 cd13 ct13 oc14 kV14 dc14 pm14 cd14 ct14 oc15 kV15 dc15 pm15 cd15 ct15 oc16 kV16 dc16 pm16 cd16 ct16 oc17 kV17 dc17 pm17 cd17 ct17 oc18 kV18 dc18 pm18 cd18 ct18 oc19 kV19 dc19 pm19 cd19 ct19 oc20 kV20 dc20 pm20 cd20 ct20 oc21 kV21 dc21 pm21 cd21 ct21 oc22 kV22 dc22 pm22 cd22 ct22 oc23 kV23 dc23 pm23 cd23 ct23 oc24 kV24 dc24 pm24 cd24 ct24 oc25 kV25 dc25 pm25 cd25 ct25 oc26 kV26 dc26 pm26 cd26 ct26 oc27 kV27 dc27 pm27 cd27 ct27 oc28 kV28 dc28 pm28 cd28 ct28 oc29 kV29 dc29 pm29 cd29 ct29 oc30 kV30 dc30 pm30 cd30 ct30 oc31 kV31 dc31 pm31 cd31 ct31 oc32 kV32 dc32 pm32 cd32 ct32 oc33 kV33 dc33 pm33 cd33 ct33 oc34 kV34 dc34 pm34 cd34 ct34 oc35 kV35 dc35 pm35 cd35 ct35 oc36 kV36 dc36 pm36 cd36 ct36 oc37 kV37 dc37 pm37 cd37 ct37 oc38 kV38 dc38 pm38 cd38 ct38 oc39 kV39 dc39 pm39 cd39 ct39 oc40 kV40 dc40 pm40 cd40 ct40 oc41 kV41 dc41 pm41 cd41 ct41 oc42 kV42 dc42 pm42 cd42 ct42 ocT42 oc43 kV43 dc43 pm43 cd43 ct43 oc44 kV44 dc44 pm44 cd44 ct44 oc45 kV45 dc45 pm45 cd45 ct45 oc46 kV46 dc46 pm46 cd46 ct46 oc47 kV47 dc47 pm47 cd47 ct47 oc48 kV48 dc48 pm48 cd48 ct48 oc49 kV49 dc49 pm49 cd49 ct49 oc50 kV50 dc50 pm50 cd50 ct50 oc51 kV51 dc51 pm51 cd51 ct51 oc52 kV52 dc52 pm52 cd52 ct52 oc53 kV53 dc53 pm53 cd53 ct53 oc54 kV54 dc54 pm54 cd54 ct54 oc55 kV55 dc55 pm55 cd55 ct55 oc56 kV56 dc56 pm56 cd56 ct56 oc57 kV57 dc57 pm57 cd57 ct57 oc58 kV58 dc58 pm58 cd58 ct58:Value}
 {nT42:Nat}
 {tk42_1:Tok}
  {C_Walk:Addr} (aC_Walk:nsIn K mainGlobals "Walk"=some (some (.ref C_Walk))) (pg_Walk:plainGet K C_Walk Str.empty=true) (hd_Walk:PySem.W.hasDictIn K C_Walk=true) (po_Walk:plainOver K C_Walk=true) (sa_Walk:PySem.W.findIn K (.ref C_Walk) "__setattr__"=some (some (.builtin "object.__setattr__"))) (mk_Walk:makesIn K C_Walk=true) (kc_Walk:keepIn K (.ref C_Walk)=true) (n_Walk_0:PySem.W.findIn K (.ref C_Walk) "plane"=some none) (n_Walk_1:PySem.W.findIn K (.ref C_Walk) "used"=some none) (n_Walk_2:PySem.W.findIn K (.ref C_Walk) "row_ends"=some none) (n_Walk_3:PySem.W.findIn K (.ref C_Walk) "walked"=some none) (n_Walk_4:PySem.W.findIn K (.ref C_Walk) "ahead"=some none)
 (a1:nsIn K mainGlobals "packed"=some (some (.ref f1))) (l1:K.lookup f1=some ⟨oc1,od1,.func (fnOf "packed" "packed" (Xar Xf7) (Xan Xf7) (Xac Xf7) .none kV1 dc1 pm1 an1 cd1 ct1),sl1⟩) (d1:codeIn K cd1 "packed"=true) (k1:keepIn K (.ref f1)=true)
  (a2:nsIn K mainGlobals "four_of"=some (some (.ref f2))) (l2:K.lookup f2=some ⟨oc2,od2,.func (fnOf "four_of" "four_of" (Xar Xft) (Xan Xft) (Xac Xft) .none kV2 dc2 pm2 an2 cd2 ct2),sl2⟩) (d2:codeIn K cd2 "four_of"=true) (k2:keepIn K (.ref f2)=true)
  (a3:nsIn K mainGlobals "unpacked"=some (some (.ref f3))) (l3:K.lookup f3=some ⟨oc3,od3,.func (fnOf "unpacked" "unpacked" (Xar Xd2) (Xan Xd2) (Xac Xd2) .none kV3 dc3 pm3 an3 cd3 ct3),sl3⟩) (d3:codeIn K cd3 "unpacked"=true) (k3:keepIn K (.ref f3)=true)
  (a4:nsIn K mainGlobals "holds"=some (some (.ref f4))) (l4:K.lookup f4=some ⟨oc4,od4,.func (fnOf "holds" "holds" (Xar Xjk) (Xan Xjk) (Xac Xjk) .none kV4 dc4 pm4 an4 cd4 ct4),sl4⟩) (d4:codeIn K cd4 "holds"=true) (k4:keepIn K (.ref f4)=true)
  (a5:nsIn K mainGlobals "part_of_one"=some (some (.ref f5))) (l5:K.lookup f5=some ⟨oc5,od5,.func (fnOf "part_of_one" "part_of_one" (Xar Xco) (Xan Xco) (Xac Xco) .none kV5 dc5 pm5 an5 cd5 ct5),sl5⟩) (d5:codeIn K cd5 "part_of_one"=true) (k5:keepIn K (.ref f5)=true)
  (a6:nsIn K mainGlobals "calm_span"=some (some (.ref f6))) (l6:K.lookup f6=some ⟨oc6,od6,.func (fnOf "calm_span" "calm_span" (Xar Xdv) (Xan Xdv) (Xac Xdv) .none kV6 dc6 pm6 an6 cd6 ct6),sl6⟩) (d6:codeIn K cd6 "calm_span"=true) (k6:keepIn K (.ref f6)=true)
  (a7:nsIn K mainGlobals "signed_span"=some (some (.ref f7))) (l7:K.lookup f7=some ⟨oc7,od7,.func (fnOf "signed_span" "signed_span" (Xar Xcm) (Xan Xcm) (Xac Xcm) .none kV7 dc7 pm7 an7 cd7 ct7),sl7⟩) (d7:codeIn K cd7 "signed_span"=true) (k7:keepIn K (.ref f7)=true)
  (a8:nsIn K mainGlobals "figured_span"=some (some (.ref f8))) (l8:K.lookup f8=some ⟨oc8,od8,.func (fnOf "figured_span" "figured_span" (Xar Xb9) (Xan Xb9) (Xac Xb9) .none kV8 dc8 pm8 an8 cd8 ct8),sl8⟩) (d8:codeIn K cd8 "figured_span"=true) (k8:keepIn K (.ref f8)=true)
  (a9:PySem.W.findIn K (.ref C_Walk) "__init__"=some (some (.ref f9))) (i9:isFn K (.ref f9)=true) (l9:K.lookup f9=some ⟨oc9,od9,.func (fnOf "__init__" "Walk.__init__" (Xar Xby) (Xan Xby) (Xac Xby) .none kV9 dc9 pm9 an9 cd9 ct9),sl9⟩) (d9:codeIn K cd9 "Walk.__init__"=true) (k9:keepIn K (.ref f9)=true)
  (a10:PySem.W.findIn K (.ref C_Walk) "turn"=some (some (.ref f10))) (i10:isFn K (.ref f10)=true) (l10:K.lookup f10=some ⟨oc10,od10,.func (fnOf "turn" "Walk.turn" (Xar Xdx) (Xan Xdx) (Xac Xdx) .none kV10 dc10 pm10 an10 cd10 ct10),sl10⟩) (d10:codeIn K cd10 "Walk.turn"=true) (k10:keepIn K (.ref f10)=true)
  (a11:PySem.W.findIn K (.ref C_Walk) "is_whole"=some (some (.ref f11))) (i11:isFn K (.ref f11)=true) (l11:K.lookup f11=some ⟨oc11,od11,.func (fnOf "is_whole" "Walk.is_whole" (Xar Xbx) (Xan Xbx) (Xac Xbx) .none kV11 dc11 pm11 an11 cd11 ct11),sl11⟩) (d11:codeIn K cd11 "Walk.is_whole"=true) (k11:keepIn K (.ref f11)=true)
  (a12:PySem.W.findIn K (.ref C_Walk) "asked"=some (some (.ref f12))) (i12:isFn K (.ref f12)=true) (l12:K.lookup f12=some ⟨oc12,od12,.func (fnOf "asked" "Walk.asked" (Xar Xc9) (Xan Xc9) (Xac Xc9) .none kV12 dc12 pm12 an12 cd12 ct12),sl12⟩) (d12:codeIn K cd12 "Walk.asked"=true) (k12:keepIn K (.ref f12)=true)
  (a13:PySem.W.findIn K (.ref C_Walk) "follow"=some (some (.ref f13))) (i13:isFn K (.ref f13)=true) (l13:K.lookup f13=some ⟨oc13,od13,.func (fnOf "follow" "Walk.follow" (Xar Xcs) (Xan Xcs) (Xac Xcs) .none kV13 dc13 pm13 an13 cd13 ct13),sl13⟩) (d13:codeIn K cd13 "Walk.follow"=true) (k13:keepIn K (.ref f13)=true)
  (a14:PySem.W.findIn K (.ref C_Walk) "take"=some (some (.ref f14))) (i14:isFn K (.ref f14)=true) (l14:K.lookup f14=some ⟨oc14,od14,.func (fnOf "take" "Walk.take" (Xar Xdy) (Xan Xdy) (Xac Xdy) .none kV14 dc14 pm14 an14 cd14 ct14),sl14⟩) (d14:codeIn K cd14 "Walk.take"=true) (k14:keepIn K (.ref f14)=true)
  (a15:PySem.W.findIn K (.ref C_Walk) "walk_awake"=some (some (.ref f15))) (i15:isFn K (.ref f15)=true) (l15:K.lookup f15=some ⟨oc15,od15,.func (fnOf "walk_awake" "Walk.walk_awake" (Xar Xbo) (Xan Xbo) (Xac Xbo) .none kV15 dc15 pm15 an15 cd15 ct15),sl15⟩) (d15:codeIn K cd15 "Walk.walk_awake"=true) (k15:keepIn K (.ref f15)=true)
  (a16:PySem.W.findIn K (.ref C_Walk) "wake"=some (some (.ref f16))) (i16:isFn K (.ref f16)=true) (l16:K.lookup f16=some ⟨oc16,od16,.func (fnOf "wake" "Walk.wake" (Xar Xdw) (Xan Xdw) (Xac Xdw) .none kV16 dc16 pm16 an16 cd16 ct16),sl16⟩) (d16:codeIn K cd16 "Walk.wake"=true) (k16:keepIn K (.ref f16)=true)
  (a17:PySem.W.findIn K (.ref C_Walk) "calm"=some (some (.ref f17))) (i17:isFn K (.ref f17)=true) (l17:K.lookup f17=some ⟨oc17,od17,.func (fnOf "calm" "Walk.calm" (Xar Xdz) (Xan Xdz) (Xac Xdz) .none kV17 dc17 pm17 an17 cd17 ct17),sl17⟩) (d17:codeIn K cd17 "Walk.calm"=true) (k17:keepIn K (.ref f17)=true)
  (a18:nsIn K mainGlobals "followed"=some (some (.ref f18))) (l18:K.lookup f18=some ⟨oc18,od18,.func (fnOf "followed" "followed" (Xar Xek) (Xan Xek) (Xac Xek) .none kV18 dc18 pm18 an18 cd18 ct18),sl18⟩) (d18:codeIn K cd18 "followed"=true) (k18:keepIn K (.ref f18)=true)
  (a19:nsIn K mainGlobals "heights_of"=some (some (.ref f19))) (l19:K.lookup f19=some ⟨oc19,od19,.func (fnOf "heights_of" "heights_of" (Xar Xcl) (Xan Xcl) (Xac Xcl) .none kV19 dc19 pm19 an19 cd19 ct19),sl19⟩) (d19:codeIn K cd19 "heights_of"=true) (k19:keepIn K (.ref f19)=true)
  (a20:nsIn K mainGlobals "planes_of"=some (some (.ref f20))) (l20:K.lookup f20=some ⟨oc20,od20,.func (fnOf "planes_of" "planes_of" (Xar Xds) (Xan Xds) (Xac Xds) .none kV20 dc20 pm20 an20 cd20 ct20),sl20⟩) (d20:codeIn K cd20 "planes_of"=true) (k20:keepIn K (.ref f20)=true)
  (a21:nsIn K mainGlobals "answer"=some (some (.ref f21))) (l21:K.lookup f21=some ⟨oc21,od21,.func (fnOf "answer" "answer" (Xar Xg2) (Xan Xg2) (Xac Xg2) .none kV21 dc21 pm21 an21 cd21 ct21),sl21⟩) (d21:codeIn K cd21 "answer"=true) (k21:keepIn K (.ref f21)=true)
  (a22:nsIn K mainGlobals "told"=some (some (.ref f22))) (l22:K.lookup f22=some ⟨oc22,od22,.func (fnOf "told" "told" (Xar Xml) (Xan Xml) (Xac Xml) .none kV22 dc22 pm22 an22 cd22 ct22),sl22⟩) (d22:codeIn K cd22 "told"=true) (k22:keepIn K (.ref f22)=true)
  (a23:nsIn K mainGlobals "is_number"=some (some (.ref f23))) (l23:K.lookup f23=some ⟨oc23,od23,.func (fnOf "is_number" "is_number" (Xar Xdu) (Xan Xdu) (Xac Xdu) .none kV23 dc23 pm23 an23 cd23 ct23),sl23⟩) (d23:codeIn K cd23 "is_number"=true) (k23:keepIn K (.ref f23)=true)
  (a24:nsIn K mainGlobals "level_of"=some (some (.ref f24))) (l24:K.lookup f24=some ⟨oc24,od24,.func (fnOf "level_of" "level_of" (Xar Xei) (Xan Xei) (Xac Xei) .none kV24 dc24 pm24 an24 cd24 ct24),sl24⟩) (d24:codeIn K cd24 "level_of"=true) (k24:keepIn K (.ref f24)=true)
  (a25:nsIn K mainGlobals "places"=some (some (.ref f25))) (l25:K.lookup f25=some ⟨oc25,od25,.func (fnOf "places" "places" (Xar Xf6) (Xan Xf6) (Xac Xf6) .none kV25 dc25 pm25 an25 cd25 ct25),sl25⟩) (d25:codeIn K cd25 "places"=true) (k25:keepIn K (.ref f25)=true)
  (a26:nsIn K mainGlobals "is_lift"=some (some (.ref f26))) (l26:K.lookup f26=some ⟨oc26,od26,.func (fnOf "is_lift" "is_lift" (Xar Xe1) (Xan Xe1) (Xac Xe1) .none kV26 dc26 pm26 an26 cd26 ct26),sl26⟩) (d26:codeIn K cd26 "is_lift"=true) (k26:keepIn K (.ref f26)=true)
  (a27:nsIn K mainGlobals "is_ladder"=some (some (.ref f27))) (l27:K.lookup f27=some ⟨oc27,od27,.func (fnOf "is_ladder" "is_ladder" (Xar Xc8) (Xan Xc8) (Xac Xc8) .none kV27 dc27 pm27 an27 cd27 ct27),sl27⟩) (d27:codeIn K cd27 "is_ladder"=true) (k27:keepIn K (.ref f27)=true)
  (a28:nsIn K mainGlobals "ladder_of"=some (some (.ref f28))) (l28:K.lookup f28=some ⟨oc28,od28,.func (fnOf "ladder_of" "ladder_of" (Xar Xdt) (Xan Xdt) (Xac Xdt) .none kV28 dc28 pm28 an28 cd28 ct28),sl28⟩) (d28:codeIn K cd28 "ladder_of"=true) (k28:keepIn K (.ref f28)=true)
  (a29:nsIn K mainGlobals "neighbours"=some (some (.ref f29))) (l29:K.lookup f29=some ⟨oc29,od29,.func (fnOf "neighbours" "neighbours" (Xar Xc6) (Xan Xc6) (Xac Xc6) .none kV29 dc29 pm29 an29 cd29 ct29),sl29⟩) (d29:codeIn K cd29 "neighbours"=true) (k29:keepIn K (.ref f29)=true)
  (a30:nsIn K mainGlobals "lifted_places"=some (some (.ref f30))) (l30:K.lookup f30=some ⟨oc30,od30,.func (fnOf "lifted_places" "lifted_places" (Xar Xbw) (Xan Xbw) (Xac Xbw) .none kV30 dc30 pm30 an30 cd30 ct30),sl30⟩) (d30:codeIn K cd30 "lifted_places"=true) (k30:keepIn K (.ref f30)=true)
  (a31:nsIn K mainGlobals "gain"=some (some (.ref f31))) (l31:K.lookup f31=some ⟨oc31,od31,.func (fnOf "gain" "gain" (Xar Xmn) (Xan Xmn) (Xac Xmn) .none kV31 dc31 pm31 an31 cd31 ct31),sl31⟩) (d31:codeIn K cd31 "gain"=true) (k31:keepIn K (.ref f31)=true)
  (a32:nsIn K mainGlobals "raised"=some (some (.ref f32))) (l32:K.lookup f32=some ⟨oc32,od32,.func (fnOf "raised" "raised" (Xar Xg1) (Xan Xg1) (Xac Xg1) .none kV32 dc32 pm32 an32 cd32 ct32),sl32⟩) (d32:codeIn K cd32 "raised"=true) (k32:keepIn K (.ref f32)=true)
  (a33:nsIn K mainGlobals "is_row"=some (some (.ref f33))) (l33:K.lookup f33=some ⟨oc33,od33,.func (fnOf "is_row" "is_row" (Xar Xf8) (Xan Xf8) (Xac Xf8) .none kV33 dc33 pm33 an33 cd33 ct33),sl33⟩) (d33:codeIn K cd33 "is_row"=true) (k33:keepIn K (.ref f33)=true)
  (a34:nsIn K mainGlobals "is_picture"=some (some (.ref f34))) (l34:K.lookup f34=some ⟨oc34,od34,.func (fnOf "is_picture" "is_picture" (Xar Xck) (Xan Xck) (Xac Xck) .none kV34 dc34 pm34 an34 cd34 ct34),sl34⟩) (d34:codeIn K cd34 "is_picture"=true) (k34:keepIn K (.ref f34)=true)
  (a35:nsIn K mainGlobals "change_rows"=some (some (.ref f35))) (l35:K.lookup f35=some ⟨oc35,od35,.func (fnOf "change_rows" "change_rows" (Xar Xcr) (Xan Xcr) (Xac Xcr) .none kV35 dc35 pm35 an35 cd35 ct35),sl35⟩) (d35:codeIn K cd35 "change_rows"=true) (k35:keepIn K (.ref f35)=true)
  (a36:nsIn K mainGlobals "change_columns"=some (some (.ref f36))) (l36:K.lookup f36=some ⟨oc36,od36,.func (fnOf "change_columns" "change_columns" (Xar Xbn) (Xan Xbn) (Xac Xbn) .none kV36 dc36 pm36 an36 cd36 ct36),sl36⟩) (d36:codeIn K cd36 "change_columns"=true) (k36:keepIn K (.ref f36)=true)
  (a37:nsIn K mainGlobals "laid"=some (some (.ref f37))) (l37:K.lookup f37=some ⟨oc37,od37,.func (fnOf "laid" "laid" (Xar Xmm) (Xan Xmm) (Xac Xmm) .none kV37 dc37 pm37 an37 cd37 ct37),sl37⟩) (d37:codeIn K cd37 "laid"=true) (k37:keepIn K (.ref f37)=true)
  (a38:nsIn K mainGlobals "thinned"=some (some (.ref f38))) (l38:K.lookup f38=some ⟨oc38,od38,.func (fnOf "thinned" "thinned" (Xar Xe0) (Xan Xe0) (Xac Xe0) .none kV38 dc38 pm38 an38 cd38 ct38),sl38⟩) (d38:codeIn K cd38 "thinned"=true) (k38:keepIn K (.ref f38)=true)
  (a39:nsIn K mainGlobals "is_part"=some (some (.ref f39))) (l39:K.lookup f39=some ⟨oc39,od39,.func (fnOf "is_part" "is_part" (Xar Xfs) (Xan Xfs) (Xac Xfs) .none kV39 dc39 pm39 an39 cd39 ct39),sl39⟩) (d39:codeIn K cd39 "is_part"=true) (k39:keepIn K (.ref f39)=true)
  (a40:nsIn K mainGlobals "is_head"=some (some (.ref f40))) (l40:K.lookup f40=some ⟨oc40,od40,.func (fnOf "is_head" "is_head" (Xar Xe2) (Xan Xe2) (Xac Xe2) .none kV40 dc40 pm40 an40 cd40 ct40),sl40⟩) (d40:codeIn K cd40 "is_head"=true) (k40:keepIn K (.ref f40)=true)
  (a41:nsIn K mainGlobals "walk_of"=some (some (.ref f41))) (l41:K.lookup f41=some ⟨oc41,od41,.func (fnOf "walk_of" "walk_of" (Xar Xfq) (Xan Xfq) (Xac Xfq) .none kV41 dc41 pm41 an41 cd41 ct41),sl41⟩) (d41:codeIn K cd41 "walk_of"=true) (k41:keepIn K (.ref f41)=true)
  (a42:nsIn K mainGlobals "coded"=some (some (.ref f42))) (l42:K.lookup f42=some ⟨oc42,od42,.func (fnOf "coded" "coded" (Xar Xjl) (Xan Xjl) (Xac Xjl) (.ref T42) kV42 dc42 pm42 an42 cd42 ct42),sl42⟩) (d42:codeIn K cd42 "coded"=true) (k42:keepIn K (.ref f42)=true)
  (dl42:K.lookup T42=some ⟨ocT42,odT42,.seq #[.none,.int 2 tk42_1] nT42,slT42⟩)
  (a43:nsIn K mainGlobals "read_number"=some (some (.ref f43))) (l43:K.lookup f43=some ⟨oc43,od43,.func (fnOf "read_number" "read_number" (Xar Xcn) (Xan Xcn) (Xac Xcn) .none kV43 dc43 pm43 an43 cd43 ct43),sl43⟩) (d43:codeIn K cd43 "read_number"=true) (k43:keepIn K (.ref f43)=true)
  (a44:nsIn K mainGlobals "written_lift"=some (some (.ref f44))) (l44:K.lookup f44=some ⟨oc44,od44,.func (fnOf "written_lift" "written_lift" (Xar Xbu) (Xan Xbu) (Xac Xbu) .none kV44 dc44 pm44 an44 cd44 ct44),sl44⟩) (d44:codeIn K cd44 "written_lift"=true) (k44:keepIn K (.ref f44)=true)
  (a45:nsIn K mainGlobals "written_ladder"=some (some (.ref f45))) (l45:K.lookup f45=some ⟨oc45,od45,.func (fnOf "written_ladder" "written_ladder" (Xar Xbm) (Xan Xbm) (Xac Xbm) .none kV45 dc45 pm45 an45 cd45 ct45),sl45⟩) (d45:codeIn K cd45 "written_ladder"=true) (k45:keepIn K (.ref f45)=true)
  (a46:nsIn K mainGlobals "written"=some (some (.ref f46))) (l46:K.lookup f46=some ⟨oc46,od46,.func (fnOf "written" "written" (Xar Xez) (Xan Xez) (Xac Xez) .none kV46 dc46 pm46 an46 cd46 ct46),sl46⟩) (d46:codeIn K cd46 "written"=true) (k46:keepIn K (.ref f46)=true)
  (a47:nsIn K mainGlobals "read_lift"=some (some (.ref f47))) (l47:K.lookup f47=some ⟨oc47,od47,.func (fnOf "read_lift" "read_lift" (Xar Xc4) (Xan Xc4) (Xac Xc4) .none kV47 dc47 pm47 an47 cd47 ct47),sl47⟩) (d47:codeIn K cd47 "read_lift"=true) (k47:keepIn K (.ref f47)=true)
  (a48:nsIn K mainGlobals "read_ladder"=some (some (.ref f48))) (l48:K.lookup f48=some ⟨oc48,od48,.func (fnOf "read_ladder" "read_ladder" (Xar Xb6) (Xan Xb6) (Xac Xb6) .none kV48 dc48 pm48 an48 cd48 ct48),sl48⟩) (d48:codeIn K cd48 "read_ladder"=true) (k48:keepIn K (.ref f48)=true)
  (a49:nsIn K mainGlobals "read_head"=some (some (.ref f49))) (l49:K.lookup f49=some ⟨oc49,od49,.func (fnOf "read_head" "read_head" (Xar Xc5) (Xan Xc5) (Xac Xc5) .none kV49 dc49 pm49 an49 cd49 ct49),sl49⟩) (d49:codeIn K cd49 "read_head"=true) (k49:keepIn K (.ref f49)=true)
  (a50:nsIn K mainGlobals "read_text"=some (some (.ref f50))) (l50:K.lookup f50=some ⟨oc50,od50,.func (fnOf "read_text" "read_text" (Xar Xdr) (Xan Xdr) (Xac Xdr) .none kV50 dc50 pm50 an50 cd50 ct50),sl50⟩) (d50:codeIn K cd50 "read_text"=true) (k50:keepIn K (.ref f50)=true)
  (a51:nsIn K mainGlobals "_law_cell_at"=some (some (.ref f51))) (l51:K.lookup f51=some ⟨oc51,od51,.func (fnOf "_law_cell_at" "_law_cell_at" (Xar Xcq) (Xan Xcq) (Xac Xcq) .none kV51 dc51 pm51 an51 cd51 ct51),sl51⟩) (d51:codeIn K cd51 "_law_cell_at"=true) (k51:keepIn K (.ref f51)=true)
  (a52:nsIn K mainGlobals "_law_ladder"=some (some (.ref f52))) (l52:K.lookup f52=some ⟨oc52,od52,.func (fnOf "_law_ladder" "_law_ladder" (Xar Xc7) (Xan Xc7) (Xac Xc7) .none kV52 dc52 pm52 an52 cd52 ct52),sl52⟩) (d52:codeIn K cd52 "_law_ladder"=true) (k52:keepIn K (.ref f52)=true)
  (a53:nsIn K mainGlobals "_law_picture"=some (some (.ref f53))) (l53:K.lookup f53=some ⟨oc53,od53,.func (fnOf "_law_picture" "_law_picture" (Xar Xb7) (Xan Xb7) (Xac Xb7) .none kV53 dc53 pm53 an53 cd53 ct53),sl53⟩) (d53:codeIn K cd53 "_law_picture"=true) (k53:keepIn K (.ref f53)=true)
  (a54:nsIn K mainGlobals "_law_line"=some (some (.ref f54))) (l54:K.lookup f54=some ⟨oc54,od54,.func (fnOf "_law_line" "_law_line" (Xar Xdd) (Xan Xdd) (Xac Xdd) .none kV54 dc54 pm54 an54 cd54 ct54),sl54⟩) (d54:codeIn K cd54 "_law_line"=true) (k54:keepIn K (.ref f54)=true)
  (a55:nsIn K mainGlobals "_law_read"=some (some (.ref f55))) (l55:K.lookup f55=some ⟨oc55,od55,.func (fnOf "_law_read" "_law_read" (Xar Xej) (Xan Xej) (Xac Xej) .none kV55 dc55 pm55 an55 cd55 ct55),sl55⟩) (d55:codeIn K cd55 "_law_read"=true) (k55:keepIn K (.ref f55)=true)
  (a56:nsIn K mainGlobals "_law_refused"=some (some (.ref f56))) (l56:K.lookup f56=some ⟨oc56,od56,.func (fnOf "_law_refused" "_law_refused" (Xar Xcp) (Xan Xcp) (Xac Xcp) .none kV56 dc56 pm56 an56 cd56 ct56),sl56⟩) (d56:codeIn K cd56 "_law_refused"=true) (k56:keepIn K (.ref f56)=true)
  (a57:nsIn K mainGlobals "_law_cut"=some (some (.ref f57))) (l57:K.lookup f57=some ⟨oc57,od57,.func (fnOf "_law_cut" "_law_cut" (Xar Xfr) (Xan Xfr) (Xac Xfr) .none kV57 dc57 pm57 an57 cd57 ct57),sl57⟩) (d57:codeIn K cd57 "_law_cut"=true) (k57:keepIn K (.ref f57)=true)
  (a58:nsIn K mainGlobals "law"=some (some (.ref f58))) (l58:K.lookup f58=some ⟨oc58,od58,.func (fnOf "law" "law" (Xar Xnv) (Xan Xnv) (Xac Xnv) .none kV58 dc58 pm58 an58 cd58 ct58),sl58⟩) (d58:codeIn K cd58 "law"=true) (k58:keepIn K (.ref f58)=true)
  {CX_NoText:Addr} (aX_NoText:nsIn K mainGlobals "NoText"=some (some (.ref CX_NoText)))
  {CX_NoHead:Addr} (aX_NoHead:nsIn K mainGlobals "NoHead"=some (some (.ref CX_NoHead)))
  {CX_WaveError:Addr} (aX_WaveError:nsIn K mainGlobals "WaveError"=some (some (.ref CX_WaveError)))
  (qX_NoText:excIn K CX_NoText [.type "ValueError",.type "Exception",.type "BaseException",.type "object"] "ValueError.__new__"=true) (xX_NoText:exmOne K (.ref CX_NoText) (.ref CX_WaveError)=some true) (zX_NoText:nsIn K mainGlobals "ValueError"=some none)
  (e1_NoText:PySem.W.findIn K (.ref CX_NoText) "__getattribute__"=some (some (.builtin "BaseException.__getattribute__"))) (e2_NoText:PySem.W.findIn K (.ref CX_NoText) "__getattr__"=some none) (e3_NoText:PySem.W.hasDictIn K CX_NoText=true) (e4_NoText:PySem.W.subIn K (.ref CX_NoText) (.type "BaseException")=some true) (e5_NoText:PySem.W.findIn K (.ref CX_NoText) "__class__"=some (some (.builtin "object.__class__"))) (e6_NoText:PySem.W.specialIn K (.builtin "object.__class__") "__get__"=some (some (.builtin "getset_descriptor.__get__"))) (e7_NoText:PySem.W.takesIn K (.builtin "object.__class__")=some true) (e8_NoText:PySem.W.mroIn K CX_NoText (.type "object")=some true)
  (kx0_NoText:kitOne K (.ref CX_NoText) (.ref CX_NoText)=some true)
  (kx1_NoText:kitOne K (.ref CX_NoText) (.ref CX_NoHead)=some false)
  (kt0_NoText:kitOne K (.ref CX_NoText) (.type "ValueError")=some true)
  {tk_ASKS:Tok} (v_ASKS:nsIn K mainGlobals "ASKS"=some (some (.int 0 tk_ASKS)))
  {tk_START:Tok} (v_START:nsIn K mainGlobals "START"=some (some (.int 1 tk_START)))
  {tk_END:Tok} (v_END:nsIn K mainGlobals "END"=some (some (.int 2 tk_END)))
  {tk_SPAN:Tok} (v_SPAN:nsIn K mainGlobals "SPAN"=some (some (.int 3 tk_SPAN)))
  {tk_WAKING:Tok} (v_WAKING:nsIn K mainGlobals "WAKING"=some (some (.int 0 tk_WAKING)))
  {tk_WAKING_FIRST:Tok} (v_WAKING_FIRST:nsIn K mainGlobals "WAKING_FIRST"=some (some (.int 1 tk_WAKING_FIRST)))
  {tk_SIGN:Tok} (v_SIGN:nsIn K mainGlobals "SIGN"=some (some (.int 2 tk_SIGN)))
  {tk_FIGURE:Tok} (v_FIGURE:nsIn K mainGlobals "FIGURE"=some (some (.int 3 tk_FIGURE)))
  {tk_HALF:Tok} (v_HALF:nsIn K mainGlobals "HALF"=some (some (.int 0 tk_HALF)))
  {tk_LEFT:Tok} (v_LEFT:nsIn K mainGlobals "LEFT"=some (some (.int 1 tk_LEFT)))
  {tk_RIGHT:Tok} (v_RIGHT:nsIn K mainGlobals "RIGHT"=some (some (.int 2 tk_RIGHT)))
  {tk_ADD:Tok} (v_ADD:nsIn K mainGlobals "ADD"=some (some (.int 3 tk_ADD)))
  {tk_SHIFT:Tok} (v_SHIFT:nsIn K mainGlobals "SHIFT"=some (some (.int 4 tk_SHIFT)))
  {tk_MOST_LIFTS:Tok} (v_MOST_LIFTS:nsIn K mainGlobals "MOST_LIFTS"=some (some (.int 6 tk_MOST_LIFTS)))
  {tk_HIGH:Tok} (v_HIGH:nsIn K mainGlobals "HIGH"=some (some (.int 0 tk_HIGH)))
  {tk_WIDE:Tok} (v_WIDE:nsIn K mainGlobals "WIDE"=some (some (.int 1 tk_WIDE)))
  {tk_LEVELS:Tok} (v_LEVELS:nsIn K mainGlobals "LEVELS"=some (some (.int 2 tk_LEVELS)))
  {tk_PLANES:Tok} (v_PLANES:nsIn K mainGlobals "PLANES"=some (some (.int 3 tk_PLANES)))
  {tk_LADDER:Tok} (v_LADDER:nsIn K mainGlobals "LADDER"=some (some (.int 4 tk_LADDER)))
  {tk_NUMBERS_START:Tok} (v_NUMBERS_START:nsIn K mainGlobals "NUMBERS_START"=some (some (.int 1 tk_NUMBERS_START)))
  {tk_LIFTS:Tok} (v_LIFTS:nsIn K mainGlobals "LIFTS"=some (some (.int 5 tk_LIFTS)))
  {tk_LETTERS_texts:Tok} (v_LETTERS_texts:nsIn K mainGlobals "LETTERS_texts"=some (some (.int 6 tk_LETTERS_texts)))
  {tk_WORDS:Tok} (v_WORDS:nsIn K mainGlobals "WORDS"=some (some (.int 7 tk_WORDS)))
  {tk_LETTERS_packs:Tok} (v_LETTERS_packs:nsIn K mainGlobals "LETTERS_packs"=some (some (.str "abcdefghijklmnop" tk_LETTERS_packs)))
  {tk_NAME:Tok} (v_NAME:nsIn K mainGlobals "NAME"=some (some (.str "liftwave" tk_NAME)))
  {tk_NO_LIFTS:Tok} (v_NO_LIFTS:nsIn K mainGlobals "NO_LIFTS"=some (some (.str "-" tk_NO_LIFTS)))
  {tk_FIGURES:Tok} (v_FIGURES:nsIn K mainGlobals "FIGURES"=some (some (.str "0123456789" tk_FIGURES)))
  {aT_FOURS:Addr} {sl_FOURS:Array (Option Value)} {nT_FOURS:Nat} {tk_FOURS_0:Tok} {tk_FOURS_1:Tok} {tk_FOURS_2:Tok} {tk_FOURS_3:Tok} {tk_FOURS_4:Tok} {tk_FOURS_5:Tok} {tk_FOURS_6:Tok} {tk_FOURS_7:Tok} {tk_FOURS_8:Tok} {tk_FOURS_9:Tok} {tk_FOURS_10:Tok} {tk_FOURS_11:Tok} {tk_FOURS_12:Tok} {tk_FOURS_13:Tok} {tk_FOURS_14:Tok} {tk_FOURS_15:Tok} (v_FOURS:nsIn K mainGlobals "FOURS"=some (some (.ref aT_FOURS))) (lv_FOURS:K.lookup aT_FOURS=some ⟨.type "tuple",none,.seq #[.str "0000" tk_FOURS_0,.str "0001" tk_FOURS_1,.str "0010" tk_FOURS_2,.str "0011" tk_FOURS_3,.str "0100" tk_FOURS_4,.str "0101" tk_FOURS_5,.str "0110" tk_FOURS_6,.str "0111" tk_FOURS_7,.str "1000" tk_FOURS_8,.str "1001" tk_FOURS_9,.str "1010" tk_FOURS_10,.str "1011" tk_FOURS_11,.str "1100" tk_FOURS_12,.str "1101" tk_FOURS_13,.str "1110" tk_FOURS_14,.str "1111" tk_FOURS_15] nT_FOURS,sl_FOURS⟩)
  {aT_PART_SPANS_0:Addr}
  {aT_PART_SPANS_1:Addr}
  {aT_PART_SPANS_2:Addr}
  {aT_PART_SPANS_3:Addr}
  {aT_PART_SPANS_4:Addr}
  {aT_PART_SPANS:Addr} {od_PART_SPANS:Option Addr} {sl_PART_SPANS:Array (Option Value)} {nT_PART_SPANS:Nat}  (v_PART_SPANS:nsIn K mainGlobals "PART_SPANS"=some (some (.ref aT_PART_SPANS))) (lv_PART_SPANS:K.lookup aT_PART_SPANS=some ⟨.type "tuple",od_PART_SPANS,.seq #[.ref aT_PART_SPANS_0,.ref aT_PART_SPANS_1,.ref aT_PART_SPANS_2,.ref aT_PART_SPANS_3,.ref aT_PART_SPANS_4] nT_PART_SPANS,sl_PART_SPANS⟩)
  {od_PART_SPANS_0:Option Addr} {sl_PART_SPANS_0:Array (Option Value)} {nT_PART_SPANS_0:Nat} {tk_PART_SPANS_0_0:Tok} {tk_PART_SPANS_0_1:Tok} (lv_PART_SPANS_0:K.lookup aT_PART_SPANS_0=some ⟨.type "tuple",od_PART_SPANS_0,.seq #[.int 0 tk_PART_SPANS_0_0,.int 1 tk_PART_SPANS_0_1] nT_PART_SPANS_0,sl_PART_SPANS_0⟩)
  {od_PART_SPANS_1:Option Addr} {sl_PART_SPANS_1:Array (Option Value)} {nT_PART_SPANS_1:Nat} {tk_PART_SPANS_1_0:Tok} {tk_PART_SPANS_1_1:Tok} (lv_PART_SPANS_1:K.lookup aT_PART_SPANS_1=some ⟨.type "tuple",od_PART_SPANS_1,.seq #[.int (-8) tk_PART_SPANS_1_0,.int 8 tk_PART_SPANS_1_1] nT_PART_SPANS_1,sl_PART_SPANS_1⟩)
  {od_PART_SPANS_2:Option Addr} {sl_PART_SPANS_2:Array (Option Value)} {nT_PART_SPANS_2:Nat} {tk_PART_SPANS_2_0:Tok} {tk_PART_SPANS_2_1:Tok} (lv_PART_SPANS_2:K.lookup aT_PART_SPANS_2=some ⟨.type "tuple",od_PART_SPANS_2,.seq #[.int (-8) tk_PART_SPANS_2_0,.int 8 tk_PART_SPANS_2_1] nT_PART_SPANS_2,sl_PART_SPANS_2⟩)
  {od_PART_SPANS_3:Option Addr} {sl_PART_SPANS_3:Array (Option Value)} {nT_PART_SPANS_3:Nat} {tk_PART_SPANS_3_0:Tok} {tk_PART_SPANS_3_1:Tok} (lv_PART_SPANS_3:K.lookup aT_PART_SPANS_3=some ⟨.type "tuple",od_PART_SPANS_3,.seq #[.int (-64) tk_PART_SPANS_3_0,.int 64 tk_PART_SPANS_3_1] nT_PART_SPANS_3,sl_PART_SPANS_3⟩)
  {od_PART_SPANS_4:Option Addr} {sl_PART_SPANS_4:Array (Option Value)} {nT_PART_SPANS_4:Nat} {tk_PART_SPANS_4_0:Tok} {tk_PART_SPANS_4_1:Tok} (lv_PART_SPANS_4:K.lookup aT_PART_SPANS_4=some ⟨.type "tuple",od_PART_SPANS_4,.seq #[.int 0 tk_PART_SPANS_4_0,.int 8 tk_PART_SPANS_4_1] nT_PART_SPANS_4,sl_PART_SPANS_4⟩)
  {aT_SIZES:Addr} {od_SIZES:Option Addr} {sl_SIZES:Array (Option Value)} {nT_SIZES:Nat} {tk_SIZES_0:Tok} {tk_SIZES_1:Tok} (v_SIZES:nsIn K mainGlobals "SIZES"=some (some (.ref aT_SIZES))) (lv_SIZES:K.lookup aT_SIZES=some ⟨.type "tuple",od_SIZES,.seq #[.int 1 tk_SIZES_0,.int 64 tk_SIZES_1] nT_SIZES,sl_SIZES⟩)
  {aT_NUMBER_SPANS_0:Addr}
  {aT_NUMBER_SPANS_1:Addr}
  {aT_NUMBER_SPANS_2:Addr}
  {aT_NUMBER_SPANS_3:Addr}
  {aT_NUMBER_SPANS:Addr} {od_NUMBER_SPANS:Option Addr} {sl_NUMBER_SPANS:Array (Option Value)} {nT_NUMBER_SPANS:Nat}  (v_NUMBER_SPANS:nsIn K mainGlobals "NUMBER_SPANS"=some (some (.ref aT_NUMBER_SPANS))) (lv_NUMBER_SPANS:K.lookup aT_NUMBER_SPANS=some ⟨.type "tuple",od_NUMBER_SPANS,.seq #[.ref aT_NUMBER_SPANS_0,.ref aT_NUMBER_SPANS_1,.ref aT_NUMBER_SPANS_2,.ref aT_NUMBER_SPANS_3] nT_NUMBER_SPANS,sl_NUMBER_SPANS⟩)
  {od_NUMBER_SPANS_0:Option Addr} {sl_NUMBER_SPANS_0:Array (Option Value)} {nT_NUMBER_SPANS_0:Nat} {tk_NUMBER_SPANS_0_0:Tok} {tk_NUMBER_SPANS_0_1:Tok} (lv_NUMBER_SPANS_0:K.lookup aT_NUMBER_SPANS_0=some ⟨.type "tuple",od_NUMBER_SPANS_0,.seq #[.int 1 tk_NUMBER_SPANS_0_0,.int 64 tk_NUMBER_SPANS_0_1] nT_NUMBER_SPANS_0,sl_NUMBER_SPANS_0⟩)
  {od_NUMBER_SPANS_1:Option Addr} {sl_NUMBER_SPANS_1:Array (Option Value)} {nT_NUMBER_SPANS_1:Nat} {tk_NUMBER_SPANS_1_0:Tok} {tk_NUMBER_SPANS_1_1:Tok} (lv_NUMBER_SPANS_1:K.lookup aT_NUMBER_SPANS_1=some ⟨.type "tuple",od_NUMBER_SPANS_1,.seq #[.int 1 tk_NUMBER_SPANS_1_0,.int 64 tk_NUMBER_SPANS_1_1] nT_NUMBER_SPANS_1,sl_NUMBER_SPANS_1⟩)
  {od_NUMBER_SPANS_2:Option Addr} {sl_NUMBER_SPANS_2:Array (Option Value)} {nT_NUMBER_SPANS_2:Nat} {tk_NUMBER_SPANS_2_0:Tok} {tk_NUMBER_SPANS_2_1:Tok} (lv_NUMBER_SPANS_2:K.lookup aT_NUMBER_SPANS_2=some ⟨.type "tuple",od_NUMBER_SPANS_2,.seq #[.int 0 tk_NUMBER_SPANS_2_0,.int 6 tk_NUMBER_SPANS_2_1] nT_NUMBER_SPANS_2,sl_NUMBER_SPANS_2⟩)
  {od_NUMBER_SPANS_3:Option Addr} {sl_NUMBER_SPANS_3:Array (Option Value)} {nT_NUMBER_SPANS_3:Nat} {tk_NUMBER_SPANS_3_0:Tok} {tk_NUMBER_SPANS_3_1:Tok} (lv_NUMBER_SPANS_3:K.lookup aT_NUMBER_SPANS_3=some ⟨.type "tuple",od_NUMBER_SPANS_3,.seq #[.int 0 tk_NUMBER_SPANS_3_0,.int 4000 tk_NUMBER_SPANS_3_1] nT_NUMBER_SPANS_3,sl_NUMBER_SPANS_3⟩)
  {aT_FIGURE_SPAN:Addr} {od_FIGURE_SPAN:Option Addr} {sl_FIGURE_SPAN:Array (Option Value)} {nT_FIGURE_SPAN:Nat} {tk_FIGURE_SPAN_0:Tok} {tk_FIGURE_SPAN_1:Tok} (v_FIGURE_SPAN:nsIn K mainGlobals "FIGURE_SPAN"=some (some (.ref aT_FIGURE_SPAN))) (lv_FIGURE_SPAN:K.lookup aT_FIGURE_SPAN=some ⟨.type "tuple",od_FIGURE_SPAN,.seq #[.int 1 tk_FIGURE_SPAN_0,.int 4 tk_FIGURE_SPAN_1] nT_FIGURE_SPAN,sl_FIGURE_SPAN⟩)
  {aT_LADDERS:Addr} {nT_LADDERS:Nat} {aT_LADDERS_0:Addr} {tk_LADDERS_0:Tok} {aT_LADDERS_1:Addr} {tk_LADDERS_1:Tok} {aT_LADDERS_2:Addr} {tk_LADDERS_2:Tok} {aT_LADDERS_3:Addr} {tk_LADDERS_3:Tok} (v_LADDERS:nsIn K mainGlobals "LADDERS"=some (some (.ref aT_LADDERS))) (ld_LADDERS:K.lookup aT_LADDERS=some ⟨.type "dict",none,.dict #[⟨PyData.keyHash w.params "still",.str "still" tk_LADDERS_0,.ref aT_LADDERS_0⟩,⟨PyData.keyHash w.params "pair",.str "pair" tk_LADDERS_1,.ref aT_LADDERS_1⟩,⟨PyData.keyHash w.params "line",.str "line" tk_LADDERS_2,.ref aT_LADDERS_2⟩,⟨PyData.keyHash w.params "long",.str "long" tk_LADDERS_3,.ref aT_LADDERS_3⟩] nT_LADDERS,#[]⟩) (sm_LADDERS:(aT_LADDERS==sysModules)=false)
  {od_LADDERS_0:Option Addr} {sl_LADDERS_0:Array (Option Value)} {nT_LADDERS_0:Nat}  (lv_LADDERS_0:K.lookup aT_LADDERS_0=some ⟨.type "tuple",od_LADDERS_0,.seq #[] nT_LADDERS_0,sl_LADDERS_0⟩)
  {aT_LADDERS_1_0:Addr}
  {aT_LADDERS_1_1:Addr}
  {od_LADDERS_1:Option Addr} {sl_LADDERS_1:Array (Option Value)} {nT_LADDERS_1:Nat}  (lv_LADDERS_1:K.lookup aT_LADDERS_1=some ⟨.type "tuple",od_LADDERS_1,.seq #[.ref aT_LADDERS_1_0,.ref aT_LADDERS_1_1] nT_LADDERS_1,sl_LADDERS_1⟩)
  {od_LADDERS_1_0:Option Addr} {sl_LADDERS_1_0:Array (Option Value)} {nT_LADDERS_1_0:Nat} {tk_LADDERS_1_0_0:Tok} {tk_LADDERS_1_0_1:Tok} {tk_LADDERS_1_0_2:Tok} {tk_LADDERS_1_0_3:Tok} {tk_LADDERS_1_0_4:Tok} (lv_LADDERS_1_0:K.lookup aT_LADDERS_1_0=some ⟨.type "tuple",od_LADDERS_1_0,.seq #[.int 1 tk_LADDERS_1_0_0,.int (-1) tk_LADDERS_1_0_1,.int 0 tk_LADDERS_1_0_2,.int 0 tk_LADDERS_1_0_3,.int 0 tk_LADDERS_1_0_4] nT_LADDERS_1_0,sl_LADDERS_1_0⟩)
  {od_LADDERS_1_1:Option Addr} {sl_LADDERS_1_1:Array (Option Value)} {nT_LADDERS_1_1:Nat} {tk_LADDERS_1_1_0:Tok} {tk_LADDERS_1_1_1:Tok} {tk_LADDERS_1_1_2:Tok} {tk_LADDERS_1_1_3:Tok} {tk_LADDERS_1_1_4:Tok} (lv_LADDERS_1_1:K.lookup aT_LADDERS_1_1=some ⟨.type "tuple",od_LADDERS_1_1,.seq #[.int 0 tk_LADDERS_1_1_0,.int 0 tk_LADDERS_1_1_1,.int 1 tk_LADDERS_1_1_2,.int 0 tk_LADDERS_1_1_3,.int 1 tk_LADDERS_1_1_4] nT_LADDERS_1_1,sl_LADDERS_1_1⟩)
  {aT_LADDERS_2_0:Addr}
  {aT_LADDERS_2_1:Addr}
  {od_LADDERS_2:Option Addr} {sl_LADDERS_2:Array (Option Value)} {nT_LADDERS_2:Nat}  (lv_LADDERS_2:K.lookup aT_LADDERS_2=some ⟨.type "tuple",od_LADDERS_2,.seq #[.ref aT_LADDERS_2_0,.ref aT_LADDERS_2_1] nT_LADDERS_2,sl_LADDERS_2⟩)
  {od_LADDERS_2_0:Option Addr} {sl_LADDERS_2_0:Array (Option Value)} {nT_LADDERS_2_0:Nat} {tk_LADDERS_2_0_0:Tok} {tk_LADDERS_2_0_1:Tok} {tk_LADDERS_2_0_2:Tok} {tk_LADDERS_2_0_3:Tok} {tk_LADDERS_2_0_4:Tok} (lv_LADDERS_2_0:K.lookup aT_LADDERS_2_0=some ⟨.type "tuple",od_LADDERS_2_0,.seq #[.int 1 tk_LADDERS_2_0_0,.int (-1) tk_LADDERS_2_0_1,.int (-1) tk_LADDERS_2_0_2,.int 1 tk_LADDERS_2_0_3,.int 1 tk_LADDERS_2_0_4] nT_LADDERS_2_0,sl_LADDERS_2_0⟩)
  {od_LADDERS_2_1:Option Addr} {sl_LADDERS_2_1:Array (Option Value)} {nT_LADDERS_2_1:Nat} {tk_LADDERS_2_1_0:Tok} {tk_LADDERS_2_1_1:Tok} {tk_LADDERS_2_1_2:Tok} {tk_LADDERS_2_1_3:Tok} {tk_LADDERS_2_1_4:Tok} (lv_LADDERS_2_1:K.lookup aT_LADDERS_2_1=some ⟨.type "tuple",od_LADDERS_2_1,.seq #[.int 0 tk_LADDERS_2_1_0,.int 1 tk_LADDERS_2_1_1,.int 1 tk_LADDERS_2_1_2,.int 2 tk_LADDERS_2_1_3,.int 2 tk_LADDERS_2_1_4] nT_LADDERS_2_1,sl_LADDERS_2_1⟩)
  {aT_LADDERS_3_0:Addr}
  {aT_LADDERS_3_1:Addr}
  {aT_LADDERS_3_2:Addr}
  {od_LADDERS_3:Option Addr} {sl_LADDERS_3:Array (Option Value)} {nT_LADDERS_3:Nat}  (lv_LADDERS_3:K.lookup aT_LADDERS_3=some ⟨.type "tuple",od_LADDERS_3,.seq #[.ref aT_LADDERS_3_0,.ref aT_LADDERS_3_1,.ref aT_LADDERS_3_2] nT_LADDERS_3,sl_LADDERS_3⟩)
  {od_LADDERS_3_0:Option Addr} {sl_LADDERS_3_0:Array (Option Value)} {nT_LADDERS_3_0:Nat} {tk_LADDERS_3_0_0:Tok} {tk_LADDERS_3_0_1:Tok} {tk_LADDERS_3_0_2:Tok} {tk_LADDERS_3_0_3:Tok} {tk_LADDERS_3_0_4:Tok} (lv_LADDERS_3_0:K.lookup aT_LADDERS_3_0=some ⟨.type "tuple",od_LADDERS_3_0,.seq #[.int 1 tk_LADDERS_3_0_0,.int (-1) tk_LADDERS_3_0_1,.int (-1) tk_LADDERS_3_0_2,.int 1 tk_LADDERS_3_0_3,.int 1 tk_LADDERS_3_0_4] nT_LADDERS_3_0,sl_LADDERS_3_0⟩)
  {od_LADDERS_3_1:Option Addr} {sl_LADDERS_3_1:Array (Option Value)} {nT_LADDERS_3_1:Nat} {tk_LADDERS_3_1_0:Tok} {tk_LADDERS_3_1_1:Tok} {tk_LADDERS_3_1_2:Tok} {tk_LADDERS_3_1_3:Tok} {tk_LADDERS_3_1_4:Tok} (lv_LADDERS_3_1:K.lookup aT_LADDERS_3_1=some ⟨.type "tuple",od_LADDERS_3_1,.seq #[.int 0 tk_LADDERS_3_1_0,.int 1 tk_LADDERS_3_1_1,.int 1 tk_LADDERS_3_1_2,.int 2 tk_LADDERS_3_1_3,.int 2 tk_LADDERS_3_1_4] nT_LADDERS_3_1,sl_LADDERS_3_1⟩)
  {od_LADDERS_3_2:Option Addr} {sl_LADDERS_3_2:Array (Option Value)} {nT_LADDERS_3_2:Nat} {tk_LADDERS_3_2_0:Tok} {tk_LADDERS_3_2_1:Tok} {tk_LADDERS_3_2_2:Tok} {tk_LADDERS_3_2_3:Tok} {tk_LADDERS_3_2_4:Tok} (lv_LADDERS_3_2:K.lookup aT_LADDERS_3_2=some ⟨.type "tuple",od_LADDERS_3_2,.seq #[.int 1 tk_LADDERS_3_2_0,.int (-1) tk_LADDERS_3_2_1,.int (-1) tk_LADDERS_3_2_2,.int 4 tk_LADDERS_3_2_3,.int 3 tk_LADDERS_3_2_4] nT_LADDERS_3_2,sl_LADDERS_3_2⟩)
  (z1:nsIn K mainGlobals "len"=some none) (z2:nsIn K mainGlobals "range"=some none) (z3:nsIn K mainGlobals "max"=some none) (z4:nsIn K mainGlobals "min"=some none) (z5:nsIn K mainGlobals "isinstance"=some none) (z6:nsIn K mainGlobals "int"=some none) (z7:nsIn K mainGlobals "bool"=some none) (z8:nsIn K mainGlobals "tuple"=some none) (z9:nsIn K mainGlobals "list"=some none) (z10:nsIn K mainGlobals "all"=some none) (z11:nsIn K mainGlobals "zip"=some none) (z12:nsIn K mainGlobals "reversed"=some none) (z13:nsIn K mainGlobals "abs"=some none) (z14:nsIn K mainGlobals "any"=some none) (z15:nsIn K mainGlobals "sum"=some none) (z16:nsIn K mainGlobals "sorted"=some none) (z17:nsIn K mainGlobals "set"=some none) (z18:nsIn K mainGlobals "enumerate"=some none) (z19:nsIn K mainGlobals "dict"=some none) (z20:nsIn K mainGlobals "str"=some none) (z21:nsIn K mainGlobals "divmod"=some none) (z22:nsIn K mainGlobals "ord"=some none)
  (t1:kitOne K (.type "int") (.type "int")=some true) (t2:kitOne K (.type "int") (.type "bool")=some false) (t3:kitOne K (.type "int") (.type "str")=some false) (t4:kitOne K (.type "int") (.type "tuple")=some false) (t5:kitOne K (.type "int") (.type "list")=some false) (t6:kitOne K (.type "bool") (.type "int")=some true) (t7:kitOne K (.type "bool") (.type "bool")=some true) (t8:kitOne K (.type "bool") (.type "str")=some false) (t9:kitOne K (.type "bool") (.type "tuple")=some false) (t10:kitOne K (.type "bool") (.type "list")=some false) (t11:kitOne K (.type "NoneType") (.type "int")=some false) (t12:kitOne K (.type "NoneType") (.type "bool")=some false) (t13:kitOne K (.type "NoneType") (.type "str")=some false) (t14:kitOne K (.type "NoneType") (.type "tuple")=some false) (t15:kitOne K (.type "NoneType") (.type "list")=some false) (t16:kitOne K (.type "str") (.type "int")=some false) (t17:kitOne K (.type "str") (.type "bool")=some false) (t18:kitOne K (.type "str") (.type "str")=some true) (t19:kitOne K (.type "str") (.type "tuple")=some false) (t20:kitOne K (.type "str") (.type "list")=some false) (t21:kitOne K (.type "tuple") (.type "int")=some false) (t22:kitOne K (.type "tuple") (.type "bool")=some false) (t23:kitOne K (.type "tuple") (.type "str")=some false) (t24:kitOne K (.type "tuple") (.type "tuple")=some true) (t25:kitOne K (.type "tuple") (.type "list")=some false) (t26:kitOne K (.type "list") (.type "int")=some false) (t27:kitOne K (.type "list") (.type "bool")=some false) (t28:kitOne K (.type "list") (.type "str")=some false) (t29:kitOne K (.type "list") (.type "tuple")=some false) (t30:kitOne K (.type "list") (.type "list")=some true) (t31:kitOne K (.type "dict") (.type "int")=some false) (t32:kitOne K (.type "dict") (.type "bool")=some false) (t33:kitOne K (.type "dict") (.type "str")=some false) (t34:kitOne K (.type "dict") (.type "tuple")=some false) (t35:kitOne K (.type "dict") (.type "list")=some false):
  ∃fd:FuncData,(∀(s:Shared) (v:Value),BindsTo s fd ⟨[v],[]⟩ [("_law_script",v)])/\∀base:Heap,K.In base->base.Ns mainGlobals mg->FnOk l.prog w K mg base CX0 11 fa fd ["_law_script"] (Xqm K):=by
 have e:=hfa.symm.trans (mg_of X G a58)
 cases e
 have B:BltV mg:=⟨⟨mg_none_of X G z1,mg_none_of X G z2,mg_none_of X G z3,mg_none_of X G z4,mg_none_of X G z5,mg_none_of X G z6,mg_none_of X G z7,mg_none_of X G z8,mg_none_of X G z9,mg_none_of X G z10,mg_none_of X G z11,mg_none_of X G z12⟩,mg_none_of X G z13,mg_none_of X G z14,mg_none_of X G z15,mg_none_of X G z16,mg_none_of X G z17,mg_none_of X G z18,mg_none_of X G z19,mg_none_of X G z20,mg_none_of X G z21,mg_none_of X G z22⟩
 have KV:KitV K:=KitV.of t1 t2 t3 t4 t5 t6 t7 t8 t9 t10 t11 t12 t13 t14 t15 t16 t17 t18 t19 t20 t21 t22 t23 t24 t25 t26 t27 t28 t29 t30 t31 t32 t33 t34 t35
 have CV_Walk:ClsV K "Walk" ns_Walk:=⟨⟨_,aC_Walk,⟨pg_Walk,hd_Walk,po_Walk,sa_Walk⟩,λf hf=>by simp only[ns_Walk,mem_cons,not_mem_nil,or_false]at hf;rcases hf with rfl |rfl |rfl |rfl |rfl<;>first |exact n_Walk_0 |exact n_Walk_1 |exact n_Walk_2 |exact n_Walk_3 |exact n_Walk_4⟩,by decide +kernel,by decide⟩
 have Xig:∃t,mg "ASKS"=some (.int 0 t):=⟨_,mg_of X G v_ASKS⟩
 have Xc2:∃t,mg "START"=some (.int 1 t):=⟨_,mg_of X G v_START⟩
 have Xif:∃t,mg "END"=some (.int 2 t):=⟨_,mg_of X G v_END⟩
 have Xln:∃t,mg "SPAN"=some (.int 3 t):=⟨_,mg_of X G v_SPAN⟩
 have Xfg:∃t,mg "WAKING"=some (.int 0 t):=⟨_,mg_of X G v_WAKING⟩
 have Xcy:∃t,mg "WAKING_FIRST"=some (.int 1 t):=⟨_,mg_of X G v_WAKING_FIRST⟩
 have Xkh:∃t,mg "SIGN"=some (.int 2 t):=⟨_,mg_of X G v_SIGN⟩
 have Xfh:∃t,mg "FIGURE"=some (.int 3 t):=⟨_,mg_of X G v_FIGURE⟩
 have Xzc:∃t,mg "HALF"=some (.int 0 t):=⟨_,mg_of X G v_HALF⟩
 have Xza:∃t,mg "LEFT"=some (.int 1 t):=⟨_,mg_of X G v_LEFT⟩
 have Xtf:∃t,mg "RIGHT"=some (.int 2 t):=⟨_,mg_of X G v_RIGHT⟩
 have Ygo:∃t,mg "ADD"=some (.int 3 t):=⟨_,mg_of X G v_ADD⟩
 have Xte:∃t,mg "SHIFT"=some (.int 4 t):=⟨_,mg_of X G v_SHIFT⟩
 have Xie:∃t,mg "MOST_LIFTS"=some (.int 6 t):=⟨_,mg_of X G v_MOST_LIFTS⟩
 have Xzb:∃t,mg "HIGH"=some (.int 0 t):=⟨_,mg_of X G v_HIGH⟩
 have Xy9:∃t,mg "WIDE"=some (.int 1 t):=⟨_,mg_of X G v_WIDE⟩
 have Xpy:∃t,mg "LEVELS"=some (.int 2 t):=⟨_,mg_of X G v_LEVELS⟩
 have Xpw:∃t,mg "PLANES"=some (.int 3 t):=⟨_,mg_of X G v_PLANES⟩
 have Xhc:∃t,mg "LADDER"=some (.int 4 t):=⟨_,mg_of X G v_LADDER⟩
 have Xfx:∃t,mg "NUMBERS_START"=some (.int 1 t):=⟨_,mg_of X G v_NUMBERS_START⟩
 have Xpx:∃t,mg "LIFTS"=some (.int 5 t):=⟨_,mg_of X G v_LIFTS⟩
 have Xfy:∃t,mg "LETTERS_texts"=some (.int 6 t):=⟨_,mg_of X G v_LETTERS_texts⟩
 have Xtd:∃t,mg "WORDS"=some (.int 7 t):=⟨_,mg_of X G v_WORDS⟩
 have Xb1:∃t,mg "LETTERS_packs"=some (.str "abcdefghijklmnop" t):=⟨_,mg_of X G v_LETTERS_packs⟩
 have Xoy:∃t,mg "NAME"=some (.str "liftwave" t):=⟨_,mg_of X G v_NAME⟩
 have Xfk:∃t,mg "NO_LIFTS"=some (.str "-" t):=⟨_,mg_of X G v_NO_LIFTS⟩
 have Xnb:∃t,mg "FIGURES"=some (.str "0123456789" t):=⟨_,mg_of X G v_FIGURES⟩
 have Xk0:Yhd K mg "FOURS" ["0000","0001","0010","0011","0100","0101","0110","0111","1000","1001","1010","1011","1100","1101","1110","1111"]:=⟨_,_,mg_of X G v_FOURS,λF=>⟨_,[.str "0000",.str "0001",.str "0010",.str "0011",.str "0100",.str "0101",.str "0110",.str "0111",.str "1000",.str "1001",.str "1010",.str "1011",.str "1100",.str "1101",.str "1110",.str "1111"],rfl,.inr ⟨_,_,_,lv_FOURS,rfl,rfl,Xcj (show 16<=1000000 by decide),.cons ⟨_,rfl⟩ (.cons ⟨_,rfl⟩ (.cons ⟨_,rfl⟩ (.cons ⟨_,rfl⟩ (.cons ⟨_,rfl⟩ (.cons ⟨_,rfl⟩ (.cons ⟨_,rfl⟩ (.cons ⟨_,rfl⟩ (.cons ⟨_,rfl⟩ (.cons ⟨_,rfl⟩ (.cons ⟨_,rfl⟩ (.cons ⟨_,rfl⟩ (.cons ⟨_,rfl⟩ (.cons ⟨_,rfl⟩ (.cons ⟨_,rfl⟩ (.cons ⟨_,rfl⟩ (.nil))))))))))))))))⟩,⟨_,_,rfl,rfl,⟨_,_,rfl,rfl,⟨_,_,rfl,rfl,⟨_,_,rfl,rfl,⟨_,_,rfl,rfl,⟨_,_,rfl,rfl,⟨_,_,rfl,rfl,⟨_,_,rfl,rfl,⟨_,_,rfl,rfl,⟨_,_,rfl,rfl,⟨_,_,rfl,rfl,⟨_,_,rfl,rfl,⟨_,_,rfl,rfl,⟨_,_,rfl,rfl,⟨_,_,rfl,rfl,⟨_,_,rfl,rfl,rfl⟩⟩⟩⟩⟩⟩⟩⟩⟩⟩⟩⟩⟩⟩⟩⟩⟩,lv_FOURS,rfl,rfl⟩
 have Xgc:Yac K mg "PART_SPANS" (D.tup [.tup [.int 0,.int 1],.tup [.int (-8),.int 8],.tup [.int (-8),.int 8],.tup [.int (-64),.int 64],.tup [.int 0,.int 8]]):=⟨_,mg_of X G v_PART_SPANS,λF=>⟨_,[.ref aT_PART_SPANS_0,.ref aT_PART_SPANS_1,.ref aT_PART_SPANS_2,.ref aT_PART_SPANS_3,.ref aT_PART_SPANS_4],rfl,.inr ⟨_,_,_,lv_PART_SPANS,rfl,rfl,Xcj (show 5<=1000000 by decide),.cons rfl (.cons rfl (.cons rfl (.cons rfl (.cons rfl (.nil)))))⟩,⟨_,_,rfl,⟨_,[.int 0,.int 1],rfl,.inr ⟨_,_,_,lv_PART_SPANS_0,rfl,rfl,Xcj (show 2<=1000000 by decide),.cons ⟨_,rfl⟩ (.cons ⟨_,rfl⟩ (.nil))⟩,⟨_,_,rfl,rfl,⟨_,_,rfl,rfl,rfl⟩⟩⟩,⟨_,_,rfl,⟨_,[.int (-8),.int 8],rfl,.inr ⟨_,_,_,lv_PART_SPANS_1,rfl,rfl,Xcj (show 2<=1000000 by decide),.cons ⟨_,rfl⟩ (.cons ⟨_,rfl⟩ (.nil))⟩,⟨_,_,rfl,rfl,⟨_,_,rfl,rfl,rfl⟩⟩⟩,⟨_,_,rfl,⟨_,[.int (-8),.int 8],rfl,.inr ⟨_,_,_,lv_PART_SPANS_2,rfl,rfl,Xcj (show 2<=1000000 by decide),.cons ⟨_,rfl⟩ (.cons ⟨_,rfl⟩ (.nil))⟩,⟨_,_,rfl,rfl,⟨_,_,rfl,rfl,rfl⟩⟩⟩,⟨_,_,rfl,⟨_,[.int (-64),.int 64],rfl,.inr ⟨_,_,_,lv_PART_SPANS_3,rfl,rfl,Xcj (show 2<=1000000 by decide),.cons ⟨_,rfl⟩ (.cons ⟨_,rfl⟩ (.nil))⟩,⟨_,_,rfl,rfl,⟨_,_,rfl,rfl,rfl⟩⟩⟩,⟨_,_,rfl,⟨_,[.int 0,.int 8],rfl,.inr ⟨_,_,_,lv_PART_SPANS_4,rfl,rfl,Xcj (show 2<=1000000 by decide),.cons ⟨_,rfl⟩ (.cons ⟨_,rfl⟩ (.nil))⟩,⟨_,_,rfl,rfl,⟨_,_,rfl,rfl,rfl⟩⟩⟩,rfl⟩⟩⟩⟩⟩⟩⟩
 have Xpv:Yac K mg "SIZES" (D.tup [.int 1,.int 64]):=⟨_,mg_of X G v_SIZES,λF=>⟨_,[.int 1,.int 64],rfl,.inr ⟨_,_,_,lv_SIZES,rfl,rfl,Xcj (show 2<=1000000 by decide),.cons ⟨_,rfl⟩ (.cons ⟨_,rfl⟩ (.nil))⟩,⟨_,_,rfl,rfl,⟨_,_,rfl,rfl,rfl⟩⟩⟩⟩
 have Xcd:Yac K mg "NUMBER_SPANS" (D.tup [.tup [.int 1,.int 64],.tup [.int 1,.int 64],.tup [.int 0,.int 6],.tup [.int 0,.int 4000]]):=⟨_,mg_of X G v_NUMBER_SPANS,λF=>⟨_,[.ref aT_NUMBER_SPANS_0,.ref aT_NUMBER_SPANS_1,.ref aT_NUMBER_SPANS_2,.ref aT_NUMBER_SPANS_3],rfl,.inr ⟨_,_,_,lv_NUMBER_SPANS,rfl,rfl,Xcj (show 4<=1000000 by decide),.cons rfl (.cons rfl (.cons rfl (.cons rfl (.nil))))⟩,⟨_,_,rfl,⟨_,[.int 1,.int 64],rfl,.inr ⟨_,_,_,lv_NUMBER_SPANS_0,rfl,rfl,Xcj (show 2<=1000000 by decide),.cons ⟨_,rfl⟩ (.cons ⟨_,rfl⟩ (.nil))⟩,⟨_,_,rfl,rfl,⟨_,_,rfl,rfl,rfl⟩⟩⟩,⟨_,_,rfl,⟨_,[.int 1,.int 64],rfl,.inr ⟨_,_,_,lv_NUMBER_SPANS_1,rfl,rfl,Xcj (show 2<=1000000 by decide),.cons ⟨_,rfl⟩ (.cons ⟨_,rfl⟩ (.nil))⟩,⟨_,_,rfl,rfl,⟨_,_,rfl,rfl,rfl⟩⟩⟩,⟨_,_,rfl,⟨_,[.int 0,.int 6],rfl,.inr ⟨_,_,_,lv_NUMBER_SPANS_2,rfl,rfl,Xcj (show 2<=1000000 by decide),.cons ⟨_,rfl⟩ (.cons ⟨_,rfl⟩ (.nil))⟩,⟨_,_,rfl,rfl,⟨_,_,rfl,rfl,rfl⟩⟩⟩,⟨_,_,rfl,⟨_,[.int 0,.int 4000],rfl,.inr ⟨_,_,_,lv_NUMBER_SPANS_3,rfl,rfl,Xcj (show 2<=1000000 by decide),.cons ⟨_,rfl⟩ (.cons ⟨_,rfl⟩ (.nil))⟩,⟨_,_,rfl,rfl,⟨_,_,rfl,rfl,rfl⟩⟩⟩,rfl⟩⟩⟩⟩⟩⟩
 have Xhd:Yac K mg "FIGURE_SPAN" (D.tup [.int 1,.int 4]):=⟨_,mg_of X G v_FIGURE_SPAN,λF=>⟨_,[.int 1,.int 4],rfl,.inr ⟨_,_,_,lv_FIGURE_SPAN,rfl,rfl,Xcj (show 2<=1000000 by decide),.cons ⟨_,rfl⟩ (.cons ⟨_,rfl⟩ (.nil))⟩,⟨_,_,rfl,rfl,⟨_,_,rfl,rfl,rfl⟩⟩⟩⟩
 have Xki:Ykr w K mg "LADDERS" [("still",.tup []),("pair",.tup [.tup [.int 1,.int (-1),.int 0,.int 0,.int 0],.tup [.int 0,.int 0,.int 1,.int 0,.int 1]]),("line",.tup [.tup [.int 1,.int (-1),.int (-1),.int 1,.int 1],.tup [.int 0,.int 1,.int 1,.int 2,.int 2]]),("long",.tup [.tup [.int 1,.int (-1),.int (-1),.int 1,.int 1],.tup [.int 0,.int 1,.int 1,.int 2,.int 2],.tup [.int 1,.int (-1),.int (-1),.int 4,.int 3]])]:=by
  have r0:∀F,Rep K F (.tup []) (.ref aT_LADDERS_0):=λF=>⟨_,[],rfl,.inr ⟨_,_,_,lv_LADDERS_0,rfl,rfl,Xcj (show 0<=1000000 by decide),.nil⟩,rfl⟩
  have r1:∀F,Rep K F (.tup [.tup [.int 1,.int (-1),.int 0,.int 0,.int 0],.tup [.int 0,.int 0,.int 1,.int 0,.int 1]]) (.ref aT_LADDERS_1):=λF=>⟨_,[.ref aT_LADDERS_1_0,.ref aT_LADDERS_1_1],rfl,.inr ⟨_,_,_,lv_LADDERS_1,rfl,rfl,Xcj (show 2<=1000000 by decide),.cons rfl (.cons rfl (.nil))⟩,⟨_,_,rfl,⟨_,[.int 1,.int (-1),.int 0,.int 0,.int 0],rfl,.inr ⟨_,_,_,lv_LADDERS_1_0,rfl,rfl,Xcj (show 5<=1000000 by decide),.cons ⟨_,rfl⟩ (.cons ⟨_,rfl⟩ (.cons ⟨_,rfl⟩ (.cons ⟨_,rfl⟩ (.cons ⟨_,rfl⟩ (.nil)))))⟩,⟨_,_,rfl,rfl,⟨_,_,rfl,rfl,⟨_,_,rfl,rfl,⟨_,_,rfl,rfl,⟨_,_,rfl,rfl,rfl⟩⟩⟩⟩⟩⟩,⟨_,_,rfl,⟨_,[.int 0,.int 0,.int 1,.int 0,.int 1],rfl,.inr ⟨_,_,_,lv_LADDERS_1_1,rfl,rfl,Xcj (show 5<=1000000 by decide),.cons ⟨_,rfl⟩ (.cons ⟨_,rfl⟩ (.cons ⟨_,rfl⟩ (.cons ⟨_,rfl⟩ (.cons ⟨_,rfl⟩ (.nil)))))⟩,⟨_,_,rfl,rfl,⟨_,_,rfl,rfl,⟨_,_,rfl,rfl,⟨_,_,rfl,rfl,⟨_,_,rfl,rfl,rfl⟩⟩⟩⟩⟩⟩,rfl⟩⟩⟩
  have r2:∀F,Rep K F (.tup [.tup [.int 1,.int (-1),.int (-1),.int 1,.int 1],.tup [.int 0,.int 1,.int 1,.int 2,.int 2]]) (.ref aT_LADDERS_2):=λF=>⟨_,[.ref aT_LADDERS_2_0,.ref aT_LADDERS_2_1],rfl,.inr ⟨_,_,_,lv_LADDERS_2,rfl,rfl,Xcj (show 2<=1000000 by decide),.cons rfl (.cons rfl (.nil))⟩,⟨_,_,rfl,⟨_,[.int 1,.int (-1),.int (-1),.int 1,.int 1],rfl,.inr ⟨_,_,_,lv_LADDERS_2_0,rfl,rfl,Xcj (show 5<=1000000 by decide),.cons ⟨_,rfl⟩ (.cons ⟨_,rfl⟩ (.cons ⟨_,rfl⟩ (.cons ⟨_,rfl⟩ (.cons ⟨_,rfl⟩ (.nil)))))⟩,⟨_,_,rfl,rfl,⟨_,_,rfl,rfl,⟨_,_,rfl,rfl,⟨_,_,rfl,rfl,⟨_,_,rfl,rfl,rfl⟩⟩⟩⟩⟩⟩,⟨_,_,rfl,⟨_,[.int 0,.int 1,.int 1,.int 2,.int 2],rfl,.inr ⟨_,_,_,lv_LADDERS_2_1,rfl,rfl,Xcj (show 5<=1000000 by decide),.cons ⟨_,rfl⟩ (.cons ⟨_,rfl⟩ (.cons ⟨_,rfl⟩ (.cons ⟨_,rfl⟩ (.cons ⟨_,rfl⟩ (.nil)))))⟩,⟨_,_,rfl,rfl,⟨_,_,rfl,rfl,⟨_,_,rfl,rfl,⟨_,_,rfl,rfl,⟨_,_,rfl,rfl,rfl⟩⟩⟩⟩⟩⟩,rfl⟩⟩⟩
  have r3:∀F,Rep K F (.tup [.tup [.int 1,.int (-1),.int (-1),.int 1,.int 1],.tup [.int 0,.int 1,.int 1,.int 2,.int 2],.tup [.int 1,.int (-1),.int (-1),.int 4,.int 3]]) (.ref aT_LADDERS_3):=λF=>⟨_,[.ref aT_LADDERS_3_0,.ref aT_LADDERS_3_1,.ref aT_LADDERS_3_2],rfl,.inr ⟨_,_,_,lv_LADDERS_3,rfl,rfl,Xcj (show 3<=1000000 by decide),.cons rfl (.cons rfl (.cons rfl (.nil)))⟩,⟨_,_,rfl,⟨_,[.int 1,.int (-1),.int (-1),.int 1,.int 1],rfl,.inr ⟨_,_,_,lv_LADDERS_3_0,rfl,rfl,Xcj (show 5<=1000000 by decide),.cons ⟨_,rfl⟩ (.cons ⟨_,rfl⟩ (.cons ⟨_,rfl⟩ (.cons ⟨_,rfl⟩ (.cons ⟨_,rfl⟩ (.nil)))))⟩,⟨_,_,rfl,rfl,⟨_,_,rfl,rfl,⟨_,_,rfl,rfl,⟨_,_,rfl,rfl,⟨_,_,rfl,rfl,rfl⟩⟩⟩⟩⟩⟩,⟨_,_,rfl,⟨_,[.int 0,.int 1,.int 1,.int 2,.int 2],rfl,.inr ⟨_,_,_,lv_LADDERS_3_1,rfl,rfl,Xcj (show 5<=1000000 by decide),.cons ⟨_,rfl⟩ (.cons ⟨_,rfl⟩ (.cons ⟨_,rfl⟩ (.cons ⟨_,rfl⟩ (.cons ⟨_,rfl⟩ (.nil)))))⟩,⟨_,_,rfl,rfl,⟨_,_,rfl,rfl,⟨_,_,rfl,rfl,⟨_,_,rfl,rfl,⟨_,_,rfl,rfl,rfl⟩⟩⟩⟩⟩⟩,⟨_,_,rfl,⟨_,[.int 1,.int (-1),.int (-1),.int 4,.int 3],rfl,.inr ⟨_,_,_,lv_LADDERS_3_2,rfl,rfl,Xcj (show 5<=1000000 by decide),.cons ⟨_,rfl⟩ (.cons ⟨_,rfl⟩ (.cons ⟨_,rfl⟩ (.cons ⟨_,rfl⟩ (.cons ⟨_,rfl⟩ (.nil)))))⟩,⟨_,_,rfl,rfl,⟨_,_,rfl,rfl,⟨_,_,rfl,rfl,⟨_,_,rfl,rfl,⟨_,_,rfl,rfl,rfl⟩⟩⟩⟩⟩⟩,rfl⟩⟩⟩⟩
  exact Ygt (mg_of X G v_LADDERS) ld_LADDERS (⟨⟨_,_,rfl,rfl⟩,⟨⟨_,_,rfl,rfl⟩,⟨⟨_,_,rfl,rfl⟩,⟨⟨_,_,rfl,rfl⟩, trivial⟩⟩⟩⟩) sm_LADDERS (.cons r0 (.cons r1 (.cons r2 (.cons r3 (.nil)))))
 have EV_NoText:ExcV K "NoText" [("NoText",true),("NoHead",false)] [("ValueError",true)]:=⟨⟨_,aX_NoText,⟨e1_NoText,e2_NoText,e3_NoText,e4_NoText,e5_NoText,e6_NoText,e7_NoText,e8_NoText⟩,λy hy=>by simp only[mem_cons,not_mem_nil,or_false]at hy;rcases hy with rfl |rfl<;>first |exact⟨_,aX_NoText,kx0_NoText⟩ |exact⟨_,aX_NoHead,kx1_NoText⟩,λy hy=>by simp only[mem_cons,not_mem_nil,or_false]at hy;rcases hy with rfl<;>first |exact kt0_NoText⟩⟩
 have x_NoText:∀c∈(["NoText"]:List Str),∀C,nsIn K mainGlobals c=some (some (.ref C))->exmOne K (.ref C) (.ref CX_WaveError)=some true:=λc hc C hC=>by rw[mem_singleton.mp hc,aX_NoText]at hC;cases hC;exact xX_NoText
 have m_WaveError:=mg_of X G aX_WaveError
 have zB_ValueError:=mg_none_of X G zX_NoText
 have Xl2:Xu5 K mg "NoHead":=⟨_,aX_NoHead,mg_of X G aX_NoHead⟩
 have Xl1:Xu5 K mg "NoText":=⟨_,aX_NoText,mg_of X G aX_NoText⟩
 have Xdq:Xu5 K mg "raised":=⟨_,a32,mg_of X G a32⟩
 have Ydb:Xu5 K mg "told":=⟨_,a22,mg_of X G a22⟩
 have D1:DefAt K mg "packed" Xf7 _ _:=⟨Xa3 (st:=Xf7) l1 d1 k1,mg_of X G a1⟩
 have D2:DefAt K mg "four_of" Xft _ _:=⟨Xa3 (st:=Xft) l2 d2 k2,mg_of X G a2⟩
 have D3:DefAt K mg "unpacked" Xd2 _ _:=⟨Xa3 (st:=Xd2) l3 d3 k3,mg_of X G a3⟩
 have D4:DefAt K mg "holds" Xjk _ _:=⟨Xa3 (st:=Xjk) l4 d4 k4,mg_of X G a4⟩
 have D5:DefAt K mg "part_of_one" Xco _ _:=⟨Xa3 (st:=Xco) l5 d5 k5,mg_of X G a5⟩
 have D6:DefAt K mg "calm_span" Xdv _ _:=⟨Xa3 (st:=Xdv) l6 d6 k6,mg_of X G a6⟩
 have D7:DefAt K mg "signed_span" Xcm _ _:=⟨Xa3 (st:=Xcm) l7 d7 k7,mg_of X G a7⟩
 have D8:DefAt K mg "figured_span" Xb9 _ _:=⟨Xa3 (st:=Xb9) l8 d8 k8,mg_of X G a8⟩
 have D9:Fun K "__init__" "Walk.__init__" Xby _ _:=Xa3 (x := "__init__") (qual := "Walk.__init__") (st:=Xby) l9 d9 k9
 have M_Walk:MakAt K mg "Walk" _:=⟨⟨_,aC_Walk,⟨mk_Walk,a9,i9,kc_Walk⟩,mg_of X G aC_Walk⟩⟩
 have D10:MetAt K "Walk" "turn" "Walk.turn" Xdx _ _:=⟨Xa3 (x := "turn") (qual := "Walk.turn") (st:=Xdx) l10 d10 k10,⟨_,aC_Walk,⟨pg_Walk,hd_Walk,po_Walk,sa_Walk⟩,⟨a10,i10,k10⟩⟩⟩
 have D11:MetAt K "Walk" "is_whole" "Walk.is_whole" Xbx _ _:=⟨Xa3 (x := "is_whole") (qual := "Walk.is_whole") (st:=Xbx) l11 d11 k11,⟨_,aC_Walk,⟨pg_Walk,hd_Walk,po_Walk,sa_Walk⟩,⟨a11,i11,k11⟩⟩⟩
 have D12:MetAt K "Walk" "asked" "Walk.asked" Xc9 _ _:=⟨Xa3 (x := "asked") (qual := "Walk.asked") (st:=Xc9) l12 d12 k12,⟨_,aC_Walk,⟨pg_Walk,hd_Walk,po_Walk,sa_Walk⟩,⟨a12,i12,k12⟩⟩⟩
 have D13:MetAt K "Walk" "follow" "Walk.follow" Xcs _ _:=⟨Xa3 (x := "follow") (qual := "Walk.follow") (st:=Xcs) l13 d13 k13,⟨_,aC_Walk,⟨pg_Walk,hd_Walk,po_Walk,sa_Walk⟩,⟨a13,i13,k13⟩⟩⟩
 have D14:MetAt K "Walk" "take" "Walk.take" Xdy _ _:=⟨Xa3 (x := "take") (qual := "Walk.take") (st:=Xdy) l14 d14 k14,⟨_,aC_Walk,⟨pg_Walk,hd_Walk,po_Walk,sa_Walk⟩,⟨a14,i14,k14⟩⟩⟩
 have D15:MetAt K "Walk" "walk_awake" "Walk.walk_awake" Xbo _ _:=⟨Xa3 (x := "walk_awake") (qual := "Walk.walk_awake") (st:=Xbo) l15 d15 k15,⟨_,aC_Walk,⟨pg_Walk,hd_Walk,po_Walk,sa_Walk⟩,⟨a15,i15,k15⟩⟩⟩
 have D16:MetAt K "Walk" "wake" "Walk.wake" Xdw _ _:=⟨Xa3 (x := "wake") (qual := "Walk.wake") (st:=Xdw) l16 d16 k16,⟨_,aC_Walk,⟨pg_Walk,hd_Walk,po_Walk,sa_Walk⟩,⟨a16,i16,k16⟩⟩⟩
 have D17:MetAt K "Walk" "calm" "Walk.calm" Xdz _ _:=⟨Xa3 (x := "calm") (qual := "Walk.calm") (st:=Xdz) l17 d17 k17,⟨_,aC_Walk,⟨pg_Walk,hd_Walk,po_Walk,sa_Walk⟩,⟨a17,i17,k17⟩⟩⟩
 have D18:DefAt K mg "followed" Xek _ _:=⟨Xa3 (st:=Xek) l18 d18 k18,mg_of X G a18⟩
 have D19:DefAt K mg "heights_of" Xcl _ _:=⟨Xa3 (st:=Xcl) l19 d19 k19,mg_of X G a19⟩
 have D20:DefAt K mg "planes_of" Xds _ _:=⟨Xa3 (st:=Xds) l20 d20 k20,mg_of X G a20⟩
 have D21:DefAt K mg "answer" Xg2 _ _:=⟨Xa3 (st:=Xg2) l21 d21 k21,mg_of X G a21⟩
 have D22:DefAt K mg "told" Xml _ _:=⟨Xa3 (st:=Xml) l22 d22 k22,mg_of X G a22⟩
 have D23:DefAt K mg "is_number" Xdu _ _:=⟨Xa3 (st:=Xdu) l23 d23 k23,mg_of X G a23⟩
 have D24:DefAt K mg "level_of" Xei _ _:=⟨Xa3 (st:=Xei) l24 d24 k24,mg_of X G a24⟩
 have D25:DefAt K mg "places" Xf6 _ _:=⟨Xa3 (st:=Xf6) l25 d25 k25,mg_of X G a25⟩
 have D26:DefAt K mg "is_lift" Xe1 _ _:=⟨Xa3 (st:=Xe1) l26 d26 k26,mg_of X G a26⟩
 have D27:DefAt K mg "is_ladder" Xc8 _ _:=⟨Xa3 (st:=Xc8) l27 d27 k27,mg_of X G a27⟩
 have D28:DefAt K mg "ladder_of" Xdt _ _:=⟨Xa3 (st:=Xdt) l28 d28 k28,mg_of X G a28⟩
 have D29:DefAt K mg "neighbours" Xc6 _ _:=⟨Xa3 (st:=Xc6) l29 d29 k29,mg_of X G a29⟩
 have D30:DefAt K mg "lifted_places" Xbw _ _:=⟨Xa3 (st:=Xbw) l30 d30 k30,mg_of X G a30⟩
 have D31:DefAt K mg "gain" Xmn _ _:=⟨Xa3 (st:=Xmn) l31 d31 k31,mg_of X G a31⟩
 have D32:DefAt K mg "raised" Xg1 _ _:=⟨Xa3 (st:=Xg1) l32 d32 k32,mg_of X G a32⟩
 have D33:DefAt K mg "is_row" Xf8 _ _:=⟨Xa3 (st:=Xf8) l33 d33 k33,mg_of X G a33⟩
 have D34:DefAt K mg "is_picture" Xck _ _:=⟨Xa3 (st:=Xck) l34 d34 k34,mg_of X G a34⟩
 have D35:DefAt K mg "change_rows" Xcr _ _:=⟨Xa3 (st:=Xcr) l35 d35 k35,mg_of X G a35⟩
 have D36:DefAt K mg "change_columns" Xbn _ _:=⟨Xa3 (st:=Xbn) l36 d36 k36,mg_of X G a36⟩
 have D37:DefAt K mg "laid" Xmm _ _:=⟨Xa3 (st:=Xmm) l37 d37 k37,mg_of X G a37⟩
 have D38:DefAt K mg "thinned" Xe0 _ _:=⟨Xa3 (st:=Xe0) l38 d38 k38,mg_of X G a38⟩
 have D39:DefAt K mg "is_part" Xfs _ _:=⟨Xa3 (st:=Xfs) l39 d39 k39,mg_of X G a39⟩
 have D40:DefAt K mg "is_head" Xe2 _ _:=⟨Xa3 (st:=Xe2) l40 d40 k40,mg_of X G a40⟩
 have D41:DefAt K mg "walk_of" Xfq _ _:=⟨Xa3 (st:=Xfq) l41 d41 k41,mg_of X G a41⟩
 have D42:DefAtD K mg "coded" Xjl _ _ _ _:=⟨⟨_,_,_,_,_,_,_,_,_,rfl,l42,d42⟩,⟨_,_,dl42,rfl⟩,k42,mg_of X G a42⟩
 have D43:DefAt K mg "read_number" Xcn _ _:=⟨Xa3 (st:=Xcn) l43 d43 k43,mg_of X G a43⟩
 have D44:DefAt K mg "written_lift" Xbu _ _:=⟨Xa3 (st:=Xbu) l44 d44 k44,mg_of X G a44⟩
 have D45:DefAt K mg "written_ladder" Xbm _ _:=⟨Xa3 (st:=Xbm) l45 d45 k45,mg_of X G a45⟩
 have D46:DefAt K mg "written" Xez _ _:=⟨Xa3 (st:=Xez) l46 d46 k46,mg_of X G a46⟩
 have D47:DefAt K mg "read_lift" Xc4 _ _:=⟨Xa3 (st:=Xc4) l47 d47 k47,mg_of X G a47⟩
 have D48:DefAt K mg "read_ladder" Xb6 _ _:=⟨Xa3 (st:=Xb6) l48 d48 k48,mg_of X G a48⟩
 have D49:DefAt K mg "read_head" Xc5 _ _:=⟨Xa3 (st:=Xc5) l49 d49 k49,mg_of X G a49⟩
 have D50:DefAt K mg "read_text" Xdr _ _:=⟨Xa3 (st:=Xdr) l50 d50 k50,mg_of X G a50⟩
 have D51:DefAt K mg "_law_cell_at" Xcq _ _:=⟨Xa3 (st:=Xcq) l51 d51 k51,mg_of X G a51⟩
 have D52:DefAt K mg "_law_ladder" Xc7 _ _:=⟨Xa3 (st:=Xc7) l52 d52 k52,mg_of X G a52⟩
 have D53:DefAt K mg "_law_picture" Xb7 _ _:=⟨Xa3 (st:=Xb7) l53 d53 k53,mg_of X G a53⟩
 have D54:DefAt K mg "_law_line" Xdd _ _:=⟨Xa3 (st:=Xdd) l54 d54 k54,mg_of X G a54⟩
 have D55:DefAt K mg "_law_read" Xej _ _:=⟨Xa3 (st:=Xej) l55 d55 k55,mg_of X G a55⟩
 have D56:DefAt K mg "_law_refused" Xcp _ _:=⟨Xa3 (st:=Xcp) l56 d56 k56,mg_of X G a56⟩
 have D57:DefAt K mg "_law_cut" Xfr _ _:=⟨Xa3 (st:=Xfr) l57 d57 k57,mg_of X G a57⟩
 have D58:DefAt K mg "law" Xnv _ _:=⟨Xa3 (st:=Xnv) l58 d58 k58,mg_of X G a58⟩
 refine⟨fnOf "law" "law" (Xar Xnv) (Xan Xnv) (Xac Xnv) .none kV58 dc58 pm58 an58 cd58 ct58,λs v=>.of_eq rfl,λbase KB GB=>?_⟩
 have O_NoText:=Yiw KB GB aX_NoText qX_NoText
 have Xcu:=Xn2 l.prog w base D51 B KV CV_Walk
 have Xen:=Xrm l.prog w base D28 B KV CV_Walk Xki
 have Xim:=Xpk l.prog w base D52 B KV CV_Walk Xen
 have Xep:=Ybg l.prog w base D4 B KV CV_Walk
 have Xcv:=Xrn l.prog w base D23 B KV CV_Walk
 have Xp6:=Xyi l.prog w base D33 B KV CV_Walk Xcv
 have Xio:=Xpl l.prog w base D34 B KV CV_Walk Xpv Xep Xp6
 have Xnj:=Xvs l.prog w base D26 B KV CV_Walk Xgc Xcv Xep
 have Xeo:=Xro l.prog w base D27 B KV CV_Walk Xie Xnj
 have Xgs:=Xvr l.prog w base D39 B KV CV_Walk Xcd Xcv Xep
 have Xni:=Xvp l.prog w base D38 B KV CV_Walk
 have Xil:=Xpj l.prog w base D29 B KV CV_Walk
 have Xfz:=Xls l.prog w base D30 B KV CV_Walk Xil
 have Xz6:=Yft l.prog w base D31 B KV CV_Walk Xte Ygo Xza Xtf
 have Xiv:=Xyf l.prog w base D32 B KV CV_Walk Xzc Xfz Xz6
 have Xhm:=Xn3 l.prog w base D35 B KV CV_Walk Xdq Xiv
 have Xe9:=Xkw l.prog w base D36 B KV CV_Walk Xdq Xiv
 have Xz5:=Yfs l.prog w base D37 B KV CV_Walk Xdq Xni Xhm Xe9
 have Xk3:=Xs1 l.prog w base D24 B KV CV_Walk
 have Xp4:=Xyg l.prog w base D25 B KV CV_Walk Xk3
 have Xd4:=Xpm l.prog w base D19 B KV CV_Walk
 have Xjt:=Xrl l.prog w base D20 B KV CV_Walk Xd4
 have Xeq:=Xrp l.prog w base D6 B KV CV_Walk
 have Xes:=Xrr l.prog w base D10 B KV CV_Walk
 have Xci:=Xlu l.prog w base D9 M_Walk B KV CV_Walk Xfg Xeq Xes
 have Xbl:=Xlt l.prog w base D11 B KV CV_Walk
 have Xp7:=Xyj l.prog w base D21 B KV CV_Walk Xfh Xkh Xc2 Xig Xif
 have Xip:=Xpn l.prog w base D12 B KV CV_Walk
 have Xdg:=Xke l.prog w base D15 B KV CV_Walk Xfh Xc2 Xif
 have Xgh:=Xm3 l.prog w base D8 B KV CV_Walk
 have Xhh:=Xnw l.prog w base D7 B KV CV_Walk
 have Xhj:=Xnz l.prog w base D5 B KV CV_Walk Xif Xc2
 have Xer:=Xrq l.prog w base D16 B KV CV_Walk Xkh Xfg Xcy Xc2 Xif Xln Xhj
 have Xju:=Xrt l.prog w base D17 B KV CV_Walk Xcy Xfg Xig Xc2 Xif Xeq Xer
 have Xet:=Xrs l.prog w base D14 B KV CV_Walk Xfh Xig Xkh Xln Ydb Xdg Xgh Xhh Xer Xju Xes
 have Xz4:=Yfr l.prog w base D22 B KV CV_Walk Xci Xd4 Xbl Xp7 Xip Xet
 have Xtn:=Ybh l.prog w base D42 B KV CV_Walk Xpy Xio Xen Xeo Xgs Xz5 Xp4 Xjt Xz4
 have Xhl:=Xn1 l.prog w base D53 B KV CV_Walk
 have Xgg:=Xm2 l.prog w base D44 B KV CV_Walk
 have Xe8:=Xkv l.prog w base D45 B KV CV_Walk Xfk Xgg
 have Xp5:=Xyh l.prog w base D1 B KV CV_Walk Xb1 Xk0
 have Xng:=Xvn l.prog w base D46 B KV CV_Walk Xhc Xoy Xe8 Xp5
 have Xk4:=Xs3 l.prog w base D54 B KV CV_Walk
 have Xdf:=Xnx l.prog w base D43 B KV CV_Walk Xnb Xhd Xep
 have Xjr:=Xrj l.prog w base D47 B KV CV_Walk Xdf
 have Xhi:=Xny l.prog w base D48 B KV CV_Walk Xfk Xjr
 have Xnk:=Xvt l.prog w base D40 B KV CV_Walk Xhc Xcd Xgs Xeo
 have Xjs:=Xrk l.prog w base D49 B KV CV_Walk Xfx Xpx Xdf Xhi Xnk
 have Xnl:=Xvu l.prog w base D2 B KV CV_Walk Xb1 Xk0
 have Xk2:=Xs0 l.prog w base D3 B KV CV_Walk Xnl
 have Xhn:=Xn4 l.prog w base D13 B KV CV_Walk Xbl Xet
 have Xk5:=Xs4 l.prog w base D18 B KV CV_Walk Xci Xhn
 have Xnh:=Xvo l.prog w base D41 B KV CV_Walk Xpw Xzb Xy9 Xk5
 have Xem:=Xri l.prog w base D50 B KV aX_NoText O_NoText CV_Walk Xtd Xoy Xfy Xjs Xk2 Xnh Xbl
 have Xhk:=Xn0 l.prog w base D56 B KV m_WaveError x_NoText EV_NoText zB_ValueError CV_Walk Xl1 Xl2 Xem
 have Xfl:=Xs2 l.prog w base D55 B KV CV_Walk Xem
 have Xin:=Xvq l.prog w base D57 B KV CV_Walk Xhk Xfl
 exact Yi2 l.prog w base D58 B KV CV_Walk Xcu Xim Xtn Xhl Xng Xk4 Xin Xfl
end Lw
namespace PySem.W.Fast
def tw16328977227423112920:=Nat
def tw1134187262926388125:=Nat
def tw12008333221471680105:=Nat
def tw6156867688817343609:=Nat
def tw5269140610743502264:=Nat
def tw12381798349506133229:=Nat
def tw16043457383173218114:=Nat
def tw571847164954521430:=Nat
def tw4786896028951536615:=Nat
def tw11671501561932654676:=Nat
def tw16466248552526823159:=Nat
def tw7006838975090148794:=Nat
def tw11785206901669720313:=Nat
def tw11632805079778831012:=Nat
def tw17888278216979286575:=Nat
def tw4130324200183269704:=Nat
def tw1230991853239439939:=Nat
def tw12327718459660419154:=Nat
def tw2452097475933868694:=Nat
def tw6064071531952577589:=Nat
def tw9123760952275261852:=Nat
def tw80511229738956313:=Nat
def tw7317419156469231452:=Nat
def tw16601421915453217261:=Nat
def tw11438804931683885752:=Nat
def tw15318973956282717829:=Nat
def tw1690439687136514221:=Nat
def tw806200959569499262:=Nat
def tw830307029366922591:=Nat
def tw8447153738763657904:=Nat
def tw4658456116987974918:=Nat
def tw4389689293980441412:=Nat
def tw1404736281822233131:=Nat
def tw3281450469502818389:=Nat
def tw1979903151347879944:=Nat
def tw9806687971991415926:=Nat
def tw1359941123448963199:=Nat
def tw5475694406673827928:=Nat
def tw13657876352099151729:=Nat
def tw12659431637952947415:=Nat
def tw6224092769747562097:=Nat
def tw16738689459633307485:=Nat
def tw4725685999882660601:=Nat
def tw5698176631249947783:=Nat
def tw7709903890588318122:=Nat
def tw17146639249183294483:=Nat
def tw1112687322091284791:=Nat
def tw9879871220756265943:=Nat
def tw12721348140510855889:=Nat
def tw14053082775517207453:=Nat
def tw6156025037572587886:=Nat
def tw337179984301488831:=Nat
def tw4800533760393375255:=Nat
def tw7623785478430643676:=Nat
def tw6619553991547961948:=Nat
def tw4969372662697809297:=Nat
def tw17833794318113896488:=Nat
def tw12887691905369994566:=Nat
def tw1186930452096797795:=Nat
def tw10936624265979376949:=Nat
def tw1393100139099396009:=Nat
def tw10407933129463570934:=Nat
def tw18105058115840732693:=Nat
def tw17597064899109470749:=Nat
def tw16975479258497134212:=Nat
def tw9850491687109945472:=Nat
def tw13796165465659386513:=Nat
def tw12213370103415736760:=Nat
def tw15647277463899769789:=Nat
def tw1672209141412470189:=Nat
def tw4552535303492106478:=Nat
def tw16354767129288516410:=Nat
def tw13756370927258126440:=Nat
def tw17768293627310853680:=Nat
def tw15639293104490214277:=Nat
def tw13315795960357103625:=Nat
def tw15019482315163818012:=Nat
def tw16858159182177838228:=Nat
def tw4556472571518975880:=Nat
def tw527773039309848101:=Nat
def tw744354405987846407:=Nat
def tw10395299520041744535:=Nat
def tw531659460866120270:=Nat
def tw8158996630408398606:=Nat
def tw17391664126627957147:=Nat
def tw5671995148067775910:=Nat
def tw16008022532699718060:=Nat
def tw11552332383546999930:=Nat
def tw945233108681030719:=Nat
def tw15048961623636871660:=Nat
def tw13021290405262706107:=Nat
def tw3195316920311584365:=Nat
def tw14695626070434187571:=Nat
def tw4616188590662836113:=Nat
def tw3026834023661515117:=Nat
def tw13579072326518407048:=Nat
def tw6950540600323840571:=Nat
def tw6561608919081507889:=Nat
def tw4352325807110462792:=Nat
def tw4017127663841825893:=Nat
def tw6383775340958327856:=Nat
def tw10381921157114504372:=Nat
def tw8410463816802193633:=Nat
def tw7468207947577452808:=Nat
def tw15286431979084383819:=Nat
def tw11066377099190068391:=Nat
def tw14049180134399146519:=Nat
def tw4475178109754875215:=Nat
def tw11561566002656966593:=Nat
def tw14208001477166781118:=Nat
def tw18385164868142089451:=Nat
def tw13709210909741993500:=Nat
def tw13032748195970368370:=Nat
def tw5762512962009410665:=Nat
def tw9265967186270035694:=Nat
def tw2071339486896289145:=Nat
def tw10911962459552559840:=Nat
def tw11925719344688809899:=Nat
def tw5080680631672004177:=Nat
def tw6122963451458121813:=Nat
def tw5992615768197316018:=Nat
def tw9025509347123877879:=Nat
def tw2332138005898443004:=Nat
def tw18321171731103475453:=Nat
def tw1799462122750340003:=Nat
def tw9208946594178342071:=Nat
def tw14105359636422046736:=Nat
def tw13157782963999687817:=Nat
def tw200442437594643155:=Nat
def tw1916007207366525739:=Nat
def tw11997091859184882298:=Nat
def tw9178497824911652279:=Nat
def tw1091218241386654865:=Nat
def tw9069194631689772873:=Nat
def tw18043269128576072606:=Nat
def tw17006969704669715984:=Nat
def tw5006980105033982855:=Nat
def tw15822303495740810813:=Nat
def tw15307501078711303214:=Nat
def tw6258347814160216277:=Nat
def tw6302796005862702779:=Nat
def tw9797268148255728734:=Nat
def tw12380267402077596695:=Nat
def tw11032730720636294332:=Nat
def tw13598552309501831265:=Nat
def tw13325123012739710841:=Nat
def tw15805495193862659803:=Nat
def tw11259637410685853911:=Nat
def tw7735300581469860559:=Nat
def tw9385346374670208973:=Nat
def tw10896928643403522988:=Nat
def tw8432062829713799004:=Nat
def tw13799507708339852749:=Nat
def tw10279380360671063249:=Nat
def tw15090666753632426840:=Nat
def tw13143944746122219180:=Nat
def tw4880041175761523526:=Nat
def tw8658914227217113993:=Nat
def tw1805512763217548072:=Nat
def tw13356602386816565613:=Nat
def tw3626917765997636103:=Nat
def tw9456398461760927080:=Nat
def tw17384777096579757743:=Nat
def tw12169957489523667371:=Nat
def tw15388605503790716958:=Nat
def tw14044223312816959264:=Nat
def tw9029395903712350694:=Nat
def tw696043478108954480:=Nat
def tw18391132298746785781:=Nat
def tw38649734265094635:=Nat
def tw4632982828184449946:=Nat
def tw7839287639683018099:=Nat
def tw12681101118218266884:=Nat
def tw11246798436345764533:=Nat
def tw13063081625413041442:=Nat
def tw3805645111479410222:=Nat
def tw16582770643771284747:=Nat
def tw6622617303776878024:=Nat
def tw10242716572112807697:=Nat
def tw10668077378663616479:=Nat
def tw1711430170524634097:=Nat
def tw18148729758894154047:=Nat
def tw10640852261343912994:=Nat
def tw6173686630482852497:=Nat
def tw15143224575352495642:=Nat
def tw14824612825604692196:=Nat
def tw14643277364879379421:=Nat
def tw12970087424561922684:=Nat
def tw9188705245801620235:=Nat
def tw12377279798856992496:=Nat
def tw6012643568339049480:=Nat
def tw4732591812661735638:=Nat
def tw13793039553085700041:=Nat
def tw11457538385162058157:=Nat
def tw4939273557362793436:=Nat
def tw745721250639025856:=Nat
def tw11552120860302422756:=Nat
def tw16920560668342985943:=Nat
def tw10166736651644191267:=Nat
def tw5782891341312971547:=Nat
def tw373524434743712010:=Nat
def tw7415315718511589871:=Nat
def tw1196622570216441469:=Nat
def tw14691974473826567041:=Nat
def tw11801271160604206080:=Nat
def tw2401144055176140476:=Nat
def tw16650080878058237980:=Nat
def tw11076115447644772434:=Nat
def tw2032313961510804835:=Nat
def tw16750826202350698817:=Nat
def tw17176255679023090709:=Nat
def tw1133768389918494797:=Nat
def tw8142965522225160027:=Nat
def tw8350760330810713358:=Nat
def tw3453309913192334469:=Nat
def tw14884920321334573492:=Nat
def tw8507113915726613180:=Nat
def tw9469284360755995813:=Nat
def tw8191657684964838853:=Nat
def tw3026464014690271695:=Nat
def tw2015915835221140925:=Nat
def tw7110937179170210070:=Nat
def tw2426899068252943925:=Nat
def tw6728123330888770720:=Nat
def tw17860820149090872771:=Nat
def tw1708998233652714788:=Nat
def tw14443429919502254297:=Nat
def tw13754431279032464417:=Nat
def tw2711649010413805502:=Nat
def tw13987435302228781998:=Nat
def tw8969215426138708473:=Nat
def tw11047965642951778587:=Nat
def tw8659825829755940532:=Nat
def tw9807289884109192998:=Nat
def tw13845611294769275944:=Nat
def tw2345626092421923152:=Nat
def tw639640998955724316:=Nat
def tw11550635391399037213:=Nat
def tw18320500809383992658:=Nat
def tw1724121764854733665:=Nat
def tw18424379325949571369:=Nat
def tw2212536895095756690:=Nat
def tw5063589050605390170:=Nat
def tw13730838276501361539:=Nat
def tw10490826156064743060:=Nat
def tw17472018024935121968:=Nat
def tw12694850788439301040:=Nat
def tw15259350968273732303:=Nat
def tw13228196233516833059:=Nat
def tw11181854567289089510:=Nat
def tw17553056316970185028:=Nat
def tw3275453243932783057:=Nat
def tw15906104114860990357:=Nat
def tw2565548415430315048:=Nat
def tw18441388992301200570:=Nat
def tw9497259154052033111:=Nat
def tw4074349825786104284:=Nat
def tw5526703069937468374:=Nat
def tw17685912348475963872:=Nat
def tw7030671502023064982:=Nat
def tw17700799649907132276:=Nat
def tw13054546808401316026:=Nat
def tw11128364777577971557:=Nat
def tw4631622682832043738:=Nat
def tw800238482611739933:=Nat
def tw18097102133859165104:=Nat
def tw521112153634826815:=Nat
def tw4186471191082458494:=Nat
def tw7905774445053074844:=Nat
def tw7217373065681960117:=Nat
def tw3697960590026803152:=Nat
def tw16754739601527436183:=Nat
def tw548977541279191782:=Nat
def tw6685559533938733670:=Nat
def tw8645216513970987605:=Nat
def tw504637248597528196:=Nat
def tw8089749510366108904:=Nat
def tw10352140572306079633:=Nat
def tw8233501265448781060:=Nat
def tw15891649743795982607:=Nat
def tw10898946325717994757:=Nat
def tw1944353118021061601:=Nat
def tw15037831579682556688:=Nat
def tw18392308152839477390:=Nat
def tw16019522987964309454:=Nat
def tw14330663129938163158:=Nat
def tw5517555120840110676:=Nat
def tw9304333495602176256:=Nat
def tw4240512317255001737:=Nat
def tw699725698996504153:=Nat
def tw11533028822280173590:=Nat
def tw13848643805356889302:=Nat
def tw6829172697430177317:=Nat
def tw7079475860957689537:=Nat
def tw9148694828940775209:=Nat
def tw18441511779342714555:=Nat
def tw16877305048074174712:=Nat
def tw4169165489703903731:=Nat
end PySem.W.Fast
open PySem PySem.W PyProof.Rows
set_option maxRecDepth 100000 in
set_option maxHeartbeats 0 in
theorem PySem.Challenge.cw_liftwave_k47_cut_texts_holds : PySem.Challenge.rw_liftwave_k47_cut_texts.Holds := by
 w_on;o_law;k_head;(case hw=>w_witness2)
 k_fill
 refine L2.Xyw (k:=11) (l:=PySem.Challenge.rw_liftwave_k47_cut_texts) rfl rfl ⟨rfl,by decide,by decide⟩ (λw h σ=>PySem.W.kIn_of σ) ?F
 case F=>
  intro w mg fa h KX G hmg
  refine' Lw.Ykq KX G hmg ?aC_Walk ?pg_Walk ?hd_Walk ?po_Walk ?sa_Walk ?mk_Walk ?kc_Walk ?n_Walk_0 ?n_Walk_1 ?n_Walk_2 ?n_Walk_3 ?n_Walk_4 ?a1 ?l1 ?d1 ?k1 ?a2 ?l2 ?d2 ?k2 ?a3 ?l3 ?d3 ?k3 ?a4 ?l4 ?d4 ?k4 ?a5 ?l5 ?d5 ?k5 ?a6 ?l6 ?d6 ?k6 ?a7 ?l7 ?d7 ?k7 ?a8 ?l8 ?d8 ?k8 ?a9 ?i9 ?l9 ?d9 ?k9 ?a10 ?i10 ?l10 ?d10 ?k10 ?a11 ?i11 ?l11 ?d11 ?k11 ?a12 ?i12 ?l12 ?d12 ?k12 ?a13 ?i13 ?l13 ?d13 ?k13 ?a14 ?i14 ?l14 ?d14 ?k14 ?a15 ?i15 ?l15 ?d15 ?k15 ?a16 ?i16 ?l16 ?d16 ?k16 ?a17 ?i17 ?l17 ?d17 ?k17 ?a18 ?l18 ?d18 ?k18 ?a19 ?l19 ?d19 ?k19 ?a20 ?l20 ?d20 ?k20 ?a21 ?l21 ?d21 ?k21 ?a22 ?l22 ?d22 ?k22 ?a23 ?l23 ?d23 ?k23 ?a24 ?l24 ?d24 ?k24 ?a25 ?l25 ?d25 ?k25 ?a26 ?l26 ?d26 ?k26 ?a27 ?l27 ?d27 ?k27 ?a28 ?l28 ?d28 ?k28 ?a29 ?l29 ?d29 ?k29 ?a30 ?l30 ?d30 ?k30 ?a31 ?l31 ?d31 ?k31 ?a32 ?l32 ?d32 ?k32 ?a33 ?l33 ?d33 ?k33 ?a34 ?l34 ?d34 ?k34 ?a35 ?l35 ?d35 ?k35 ?a36 ?l36 ?d36 ?k36 ?a37 ?l37 ?d37 ?k37 ?a38 ?l38 ?d38 ?k38 ?a39 ?l39 ?d39 ?k39 ?a40 ?l40 ?d40 ?k40 ?a41 ?l41 ?d41 ?k41 ?a42 ?l42 ?d42 ?k42 ?dl42 ?a43 ?l43 ?d43 ?k43 ?a44 ?l44 ?d44 ?k44 ?a45 ?l45 ?d45 ?k45 ?a46 ?l46 ?d46 ?k46 ?a47 ?l47 ?d47 ?k47 ?a48 ?l48 ?d48 ?k48 ?a49 ?l49 ?d49 ?k49 ?a50 ?l50 ?d50 ?k50 ?a51 ?l51 ?d51 ?k51 ?a52 ?l52 ?d52 ?k52 ?a53 ?l53 ?d53 ?k53 ?a54 ?l54 ?d54 ?k54 ?a55 ?l55 ?d55 ?k55 ?a56 ?l56 ?d56 ?k56 ?a57 ?l57 ?d57 ?k57 ?a58 ?l58 ?d58 ?k58 ?aX_NoText ?aX_NoHead ?aX_WaveError ?qX_NoText ?xX_NoText ?zX_NoText ?e1_NoText ?e2_NoText ?e3_NoText ?e4_NoText ?e5_NoText ?e6_NoText ?e7_NoText ?e8_NoText ?kx0_NoText ?kx1_NoText ?kt0_NoText ?v_ASKS ?v_START ?v_END ?v_SPAN ?v_WAKING ?v_WAKING_FIRST ?v_SIGN ?v_FIGURE ?v_HALF ?v_LEFT ?v_RIGHT ?v_ADD ?v_SHIFT ?v_MOST_LIFTS ?v_HIGH ?v_WIDE ?v_LEVELS ?v_PLANES ?v_LADDER ?v_NUMBERS_START ?v_LIFTS ?v_LETTERS_texts ?v_WORDS ?v_LETTERS_packs ?v_NAME ?v_NO_LIFTS ?v_FIGURES ?v_FOURS ?lv_FOURS ?v_PART_SPANS ?lv_PART_SPANS ?lv_PART_SPANS_0 ?lv_PART_SPANS_1 ?lv_PART_SPANS_2 ?lv_PART_SPANS_3 ?lv_PART_SPANS_4 ?v_SIZES ?lv_SIZES ?v_NUMBER_SPANS ?lv_NUMBER_SPANS ?lv_NUMBER_SPANS_0 ?lv_NUMBER_SPANS_1 ?lv_NUMBER_SPANS_2 ?lv_NUMBER_SPANS_3 ?v_FIGURE_SPAN ?lv_FIGURE_SPAN ?v_LADDERS ?ld_LADDERS ?sm_LADDERS ?lv_LADDERS_0 ?lv_LADDERS_1 ?lv_LADDERS_1_0 ?lv_LADDERS_1_1 ?lv_LADDERS_2 ?lv_LADDERS_2_0 ?lv_LADDERS_2_1 ?lv_LADDERS_3 ?lv_LADDERS_3_0 ?lv_LADDERS_3_1 ?lv_LADDERS_3_2 ?z1 ?z2 ?z3 ?z4 ?z5 ?z6 ?z7 ?z8 ?z9 ?z10 ?z11 ?z12 ?z13 ?z14 ?z15 ?z16 ?z17 ?z18 ?z19 ?z20 ?z21 ?z22 ?t1 ?t2 ?t3 ?t4 ?t5 ?t6 ?t7 ?t8 ?t9 ?t10 ?t11 ?t12 ?t13 ?t14 ?t15 ?t16 ?t17 ?t18 ?t19 ?t20 ?t21 ?t22 ?t23 ?t24 ?t25 ?t26 ?t27 ?t28 ?t29 ?t30 ?t31 ?t32 ?t33 ?t34 ?t35
  (case aC_Walk|pg_Walk|hd_Walk|po_Walk|sa_Walk|mk_Walk|kc_Walk|n_Walk_0|n_Walk_1|n_Walk_2|n_Walk_3|n_Walk_4|a1|l1|d1|k1|a2|l2|d2|k2|a3|l3|d3|k3|a4|l4|d4|k4|a5|l5|d5|k5|a6|l6|d6|k6|a7|l7|d7|k7|a8|l8|d8|k8|a9|i9|l9|d9|k9|a10|i10|l10|d10|k10|a11|i11|l11|d11|k11|a12|i12|l12|d12|k12|a13|i13|l13|d13|k13|a14|i14|l14|d14|k14|a15|i15|l15|d15|k15|a16|i16|l16|d16|k16|a17|i17|l17|d17|k17|a18|l18|d18|k18|a19|l19|d19|k19|a20|l20|d20|k20|a21|l21|d21|k21|a22|l22|d22|k22|a23|l23|d23|k23|a24|l24|d24|k24|a25|l25|d25|k25|a26|l26|d26|k26|a27|l27|d27|k27|a28|l28|d28|k28|a29|l29|d29|k29|a30|l30|d30|k30|a31|l31|d31|k31|a32|l32|d32|k32|a33|l33|d33|k33|a34|l34|d34|k34|a35|l35|d35|k35|a36|l36|d36|k36|a37|l37|d37|k37|a38|l38|d38|k38|a39|l39|d39|k39|a40|l40|d40|k40|a41|l41|d41|k41|a42|l42|d42|k42|dl42|a43|l43|d43|k43|a44|l44|d44|k44|a45|l45|d45|k45|a46|l46|d46|k46|a47|l47|d47|k47|a48|l48|d48|k48|a49|l49|d49|k49|a50|l50|d50|k50|a51|l51|d51|k51|a52|l52|d52|k52|a53|l53|d53|k53|a54|l54|d54|k54|a55|l55|d55|k55|a56|l56|d56|k56|a57|l57|d57|k57|a58|l58|d58|k58=>k_is)
  (case aX_NoText=>first |k_is |kts_exm |kernel_rfl);(case aX_NoHead=>first |k_is |kts_exm |kernel_rfl);(case aX_WaveError=>first |k_is |kts_exm |kernel_rfl);(case qX_NoText=>first |k_is |kts_exm |kernel_rfl);(case xX_NoText=>first |k_is |kts_exm |kernel_rfl);(case zX_NoText=>first |k_is |kts_exm |kernel_rfl);(case e1_NoText=>first |k_is |kts_exm |kernel_rfl);(case e2_NoText=>first |k_is |kts_exm |kernel_rfl);(case e3_NoText=>first |k_is |kts_exm |kernel_rfl);(case e4_NoText=>first |k_is |kts_exm |kernel_rfl);(case e5_NoText=>first |k_is |kts_exm |kernel_rfl);(case e6_NoText=>first |k_is |kts_exm |kernel_rfl);(case e7_NoText=>first |k_is |kts_exm |kernel_rfl);(case e8_NoText=>first |k_is |kts_exm |kernel_rfl);(case kx0_NoText=>first |k_is |kts_exm |kernel_rfl);(case kx1_NoText=>first |k_is |kts_exm |kernel_rfl);(case kt0_NoText=>first |k_is |kts_exm |kernel_rfl)
  (case v_ASKS|v_START|v_END|v_SPAN|v_WAKING|v_WAKING_FIRST|v_SIGN|v_FIGURE|v_HALF|v_LEFT|v_RIGHT|v_ADD|v_SHIFT|v_MOST_LIFTS|v_HIGH|v_WIDE|v_LEVELS|v_PLANES|v_LADDER|v_NUMBERS_START|v_LIFTS|v_LETTERS_texts|v_WORDS|v_LETTERS_packs|v_NAME|v_NO_LIFTS|v_FIGURES|v_FOURS|lv_FOURS|v_PART_SPANS|lv_PART_SPANS|lv_PART_SPANS_0|lv_PART_SPANS_1|lv_PART_SPANS_2|lv_PART_SPANS_3|lv_PART_SPANS_4|v_SIZES|lv_SIZES|v_NUMBER_SPANS|lv_NUMBER_SPANS|lv_NUMBER_SPANS_0|lv_NUMBER_SPANS_1|lv_NUMBER_SPANS_2|lv_NUMBER_SPANS_3|v_FIGURE_SPAN|lv_FIGURE_SPAN|v_LADDERS|ld_LADDERS=>k_is);(case sm_LADDERS=>decide +kernel);(case lv_LADDERS_0|lv_LADDERS_1|lv_LADDERS_1_0|lv_LADDERS_1_1|lv_LADDERS_2|lv_LADDERS_2_0|lv_LADDERS_2_1|lv_LADDERS_3|lv_LADDERS_3_0|lv_LADDERS_3_1|lv_LADDERS_3_2|z1|z2|z3|z4|z5|z6|z7|z8|z9|z10|z11|z12|z13|z14|z15|z16|z17|z18|z19|z20|z21|z22=>k_is)
  (case t1=>kit_is);(case t2=>kit_is);(case t3=>kit_is);(case t4=>kit_is);(case t5=>kit_is);(case t6=>kit_is);(case t7=>kit_is);(case t8=>kit_is);(case t9=>kit_is);(case t10=>kit_is);(case t11=>kit_is);(case t12=>kit_is);(case t13=>kit_is);(case t14=>kit_is);(case t15=>kit_is);(case t16=>kit_is);(case t17=>kit_is);(case t18=>kit_is);(case t19=>kit_is);(case t20=>kit_is);(case t21=>kit_is);(case t22=>kit_is);(case t23=>kit_is);(case t24=>kit_is);(case t25=>kit_is);(case t26=>kit_is);(case t27=>kit_is);(case t28=>kit_is);(case t29=>kit_is);(case t30=>kit_is);(case t31=>kit_is);(case t32=>kit_is);(case t33=>kit_is);(case t34=>kit_is);(case t35=>kit_is)